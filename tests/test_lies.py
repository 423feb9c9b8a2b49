import random
import unittest
from fractions import Fraction

from helpers import (
    GREAT, detour, flagged, fraction, is_plain_fraction, is_plain_integer, line, no_views, number_spoils, objects,
    outcomes, pages, rent, replaced, single, slope, stall, walked, weight,
)
from hintslie.errors import BadFraction, BadNumber, NotKept, TooMany, Unsuited
from hintslie.lies import counted_sums, counted_table, is_counted_table
from hintslie.machines import Machine, free_machine
from hintslie.shares import least_charge, least_share
from hintslie.systems import System
from hintslie.tables import kept, least_sum
from hintslie.views import first_view
from test_shares import NONE, drawn
from test_tables import NO_FRACTIONS
from test_views import JUST_LET, JUST_TOO_MANY, STRANGE

NO_MOST = [True, False, -1, 10, 11, GREAT, -GREAT, None, "1", b"1", [1], (1,), (), {}, {1: 1}, rent(), len]


def lied(view, ask):
    return 1 if view[3] is not None and view[3] != ask[0] else 0


def pairs_walked(system, machine, most):
    """All pairs that come from the first view with most, each with the outcomes of its asks as pairs (pair, result)."""
    graph = walked(system, machine, "free")
    found = {}
    todo = [(first_view(system), most)]
    while todo:
        view, left = key = todo.pop()
        if key not in found:
            found[key] = [
                [((result[0], left - lied(view, ask)), result) for result in results]
                for ask, results in graph[view].items() if lied(view, ask) <= left
            ]
            todo.extend(behind for results in found[key] for behind, _ in results)
    return found


def slow_counted(system, machine, share, most):
    """The least numbers of all pairs that come, by going round after round; None if the share is not kept."""
    graph = pairs_walked(system, machine, most)
    greatest = max(
        abs(weight(share, NONE, result)) for rounds in graph.values() for results in rounds for _, result in results
    )
    numbers = {key: 0 for key in graph}
    while True:
        after = {
            key: max([0] + [
                min(weight(share, NONE, result) + numbers[behind] for behind, result in results) for results in rounds
            ])
            for key, rounds in graph.items()
        }
        if after == numbers:
            return numbers
        numbers = after
        if numbers[(first_view(system), most)] > greatest * len(graph):
            return None


def shows_counted(system, machine, share, most, thing, known=None):
    """Whether the clauses hold for a dict from pairs of a view and an integer from 0 to most to integers.

    The outcomes that are known already may be given, by their views.
    """
    if not all(is_plain_integer(number) and number >= 0 for number in thing.values()):
        return False
    if (first_view(system), most) not in thing:
        return False
    known = {} if known is None else known
    for (view, left), number in thing.items():
        if view not in known:
            known[view] = outcomes(system, machine, "free", view)
        for ask, results in known[view].items():
            lie = lied(view, ask)
            if lie <= left and not any(
                weight(share, NONE, result) + thing[(result[0], left - lie)] <= number
                for result in results if (result[0], left - lie) in thing
            ):
                return False
    return True


def cases(seed, many, views=30):
    """Systems, machines and shares: one that is the least of the mode true, and one beside it."""
    chance = random.Random(seed)
    triples = [(one, free_machine(one), "free") for one in (rent(), pages(), single(), stall(), slope(), detour())]
    triples += [(rent(), line(), "free"), (rent(), Machine(({"over": 0, "day": 1}, {"over": 0})), "free")]
    found = []
    for system, machine, _ in triples + drawn(seed, many, views, most_posts=3, most_requests=3, most=9):
        if len(walked(system, machine, "free", views)) <= views:
            share = least_share(system, machine, "true", NONE)
            found.append((system, machine, share))
            others = [(1, 1), (5, 4), (3, 2), (2, 1), (99, 98), (0, 1), (9, 1), (13, 12), (17, 12), (25, 12), (41, 36)]
            found.append((system, machine, chance.choice(others)))
    return found


class CountedSumsTest(unittest.TestCase):
    def test_known(self):
        case = (rent(), free_machine(rent()))
        # Each lie may make one rent a day too many or buy for nothing.
        self.assertEqual(counted_sums(*case, (1, 1), 3), [(1, 1), (2, 1), (3, 1), (4, 1)])
        self.assertEqual(counted_sums(*case, (5, 4), 2), [(3, 4), (3, 2), (9, 4)])
        self.assertEqual(counted_sums(*case, (3, 2), 9), [(0, 1)] * 10)
        self.assertEqual(counted_sums(single(), free_machine(single()), (1, 1), 0), [(0, 1)])
        with self.assertRaises(NotKept):
            counted_sums(*case, (98, 99), 0)

    def test_beside_plays_gone_through(self):
        grown = missed = shortened = 0
        for system, machine, share in cases(630, 260):
            right = [slow_counted(system, machine, share, most) for most in range(3)]
            if right[0] is None:
                missed += 1
                for most in range(3):
                    self.assertIsNone(right[most])
                    with self.assertRaises(NotKept):
                        counted_sums(system, machine, share, most)
                continue
            found = counted_sums(system, machine, share, 2)
            self.assertIs(type(found), list)
            self.assertEqual(len(found), 3)
            for most, told in enumerate(found):
                self.assertTrue(is_plain_fraction(told))
                self.assertEqual(fraction(told), Fraction(right[most][(first_view(system), most)], share[1]))
                self.assertEqual(counted_sums(system, machine, share, most), found[:most + 1])
            grown += found[2] != found[0]
            shortened += found[2][0] > 0 and found[2][1] < share[1]
        self.assertGreater(min(grown, missed, shortened), 8)

    def test_facts(self):
        for system, machine, share in cases(631, 150, 60):
            self.assertIs(kept(system, machine, "true", share, NONE), fraction(share) >= fraction(
                least_share(system, machine, "true", NONE)))
            if not kept(system, machine, "true", share, NONE):
                for most in (0, 1, 9):
                    with self.assertRaises(NotKept):
                        counted_sums(system, machine, share, most)
                continue
            found = [fraction(told) for told in counted_sums(system, machine, share, 9)]
            self.assertEqual(found[0], fraction(least_sum(system, machine, "true", share, NONE)))
            self.assertEqual(found, sorted(found))
            least = least_charge(system, machine, share)
            for charge in (least, (least[0] + least[1], least[1]), (99, 1)):
                bound = fraction(least_sum(system, machine, "free", share, charge))
                for most in range(10):
                    self.assertLessEqual(found[most], bound + most * fraction(charge))

    def test_many_views(self):
        _, moves, requests = JUST_LET[1]
        system = System(moves, requests)
        share = least_share(system, free_machine(system), "true", NONE)
        found = counted_sums(system, free_machine(system), share, 9)
        self.assertEqual(found[0], least_sum(system, free_machine(system), "true", share, NONE))
        self.assertEqual(found, sorted(found, key=fraction))
        self.assertGreater(found[9], found[0])

    def test_new_lists(self):
        case = (rent(), free_machine(rent()), (1, 1), 2)
        counted_sums(*case).clear()
        self.assertEqual(counted_sums(*case), [(1, 1), (2, 1), (3, 1)])

    def test_the_order_of_keys_means_nothing(self):
        other_rent = System(((0, 2), (0, 0)), {"over": (0, None), "day": (1, 0)})
        other_line = Machine(({"over": 1, "day": 0}, {"day": 2}, {"over": 0, "day": 2}))
        for share in ((1, 1), (5, 4), (2, 1)):
            self.assertEqual(counted_sums(other_rent, other_line, share, 4), counted_sums(rent(), line(), share, 4))
            self.assertEqual(counted_table(other_rent, other_line, share, 4), counted_table(rent(), line(), share, 4))


class CountedTableTest(unittest.TestCase):
    def test_least_numbers_of_all_pairs_that_come(self):
        told = {None: 0, 0: 0, 1: 0, 2: 0}
        for system, machine, share in cases(640, 120):
            for most in range(3):
                right = slow_counted(system, machine, share, most)
                found = counted_table(system, machine, share, most)
                self.assertEqual(found, right)
                self.assertIs(found is None, not kept(system, machine, "true", share, NONE))
                told[None if found is None else most] += 1
                if found is not None:
                    self.assertTrue(all(is_plain_integer(number) for number in found.values()))
                    self.assertTrue(all(type(left) is int for _, left in found))
                    self.assertTrue(shows_counted(system, machine, share, most, found))
                    self.assertIs(is_counted_table(system, machine, share, most, found), True)
        self.assertGreater(min(told.values()), 20)

    def test_its_number_is_what_counted_sums_tells(self):
        for system, machine, share in cases(641, 120, 60):
            for most in (0, 1, 5, 9):
                found = counted_table(system, machine, share, most)
                if found is None:
                    with self.assertRaises(NotKept):
                        counted_sums(system, machine, share, most)
                else:
                    number = Fraction(found[(first_view(system), most)], share[1])
                    self.assertEqual(number, fraction(counted_sums(system, machine, share, most)[most]))

    def test_many_views(self):
        _, moves, requests = JUST_LET[1]
        system = System(moves, requests)
        case = (system, free_machine(system), least_share(system, free_machine(system), "true", NONE), 9)
        found = counted_table(*case)
        self.assertGreater(len(found), 9000)
        self.assertIs(is_counted_table(*case, found), True)

    def test_new_dicts(self):
        case = (rent(), line(), (1, 1), 2)
        found = counted_table(*case)
        first = dict(found)
        found.clear()
        self.assertEqual(counted_table(*case), first)


class IsCountedTableTest(unittest.TestCase):
    CASES = [
        (rent(), free_machine(rent()), (1, 1), 0), (rent(), free_machine(rent()), (5, 4), 2),
        (rent(), line(), (1, 1), 1), (pages(), free_machine(pages()), (1, 1), 1),
        (stall(), free_machine(stall()), least_share(stall(), free_machine(stall()), "true", NONE), 1),
    ]

    def test_told_and_looser_tables(self):
        for case in self.CASES:
            found = counted_table(*case)
            self.assertIs(is_counted_table(*case, found), True)
            for more in (1, 7, GREAT):
                self.assertIs(is_counted_table(*case, {key: found[key] + more for key in found}), True)
            self.assertIs(is_counted_table(*case, dict(reversed(list(found.items())))), True)
            before = list(found.items())
            is_counted_table(*case, found)
            self.assertEqual(list(found.items()), before)

    def test_of_more_and_of_less_lies(self):
        system, machine, share, _ = self.CASES[1]
        for most in range(4):
            found = counted_table(system, machine, share, most)
            for other in range(4):
                right = other == most
                if other < most:
                    fits = {key: found[key] for key in found if key[1] <= other}
                    self.assertEqual(
                        is_counted_table(system, machine, share, other, fits),
                        shows_counted(system, machine, share, other, fits),
                    )
                self.assertIs(is_counted_table(system, machine, share, other, found), right)

    def test_pairs_of_more_lies_than_are_let(self):
        for system, machine, share, most in self.CASES:
            more = counted_table(system, machine, share, most + 1)
            both = {**more, **counted_table(system, machine, share, most)}
            self.assertIs(is_counted_table(system, machine, share, most + 1, both), True)
            self.assertIs(is_counted_table(system, machine, share, most, both), False)

    def test_other_shares(self):
        for case in self.CASES:
            found = counted_table(*case)
            for share in ((0, 1), (1, 1), (5, 4), (3, 2), (98, 99), (4, 1)):
                terms = case[:2] + (share, case[3])
                self.assertIs(is_counted_table(*terms, found), shows_counted(*terms, found))

    def test_numbers(self):
        for case in self.CASES:
            found = counted_table(*case)
            known = {}
            chance = random.Random(650)
            for key in chance.sample(sorted(found, key=str), min(len(found), 60)):
                self.assertIs(is_counted_table(*case, {**found, key: found[key] - 1}), False)
                for thing in number_spoils():
                    self.assertIs(is_counted_table(*case, {**found, key: thing}), False)
                for more in (1, GREAT):
                    spoiled = {**found, key: found[key] + more}
                    self.assertIs(is_counted_table(*case, spoiled), shows_counted(*case, spoiled, known))
            for thing in objects():
                if type(thing) is not int:
                    self.assertIs(is_counted_table(*case, {**found, key: thing}), False)

    def test_flags_in_the_place_of_numbers(self):
        for case in self.CASES:
            found = counted_table(*case)
            for key, number in found.items():
                if number in (0, 1):
                    self.assertIs(is_counted_table(*case, {**found, key: bool(number)}), False)

    def test_every_number_in_small_tables(self):
        case = (rent(), free_machine(rent()), (2, 1), 1)
        found = counted_table(*case)
        told = [0, 0]
        known = {}
        for key in found:
            for other in found:
                for more in range(0, 3):
                    for fewer in range(-1, 2):
                        spoiled = {**found, key: found[key] + more, other: found[other] + fewer}
                        right = shows_counted(*case, spoiled, known)
                        self.assertIs(is_counted_table(*case, spoiled), right)
                        told[right] += 1
        self.assertGreater(min(told), 20)

    def test_pairs_left_out(self):
        told = [0, 0]
        for case in self.CASES:
            known = {}
            for more in (0, 9):
                found = {key: number + more for key, number in counted_table(*case).items()}
                for key in found:
                    spoiled = {other: found[other] for other in found if other != key}
                    right = shows_counted(*case, spoiled, known)
                    self.assertIs(is_counted_table(*case, spoiled), right)
                    told[right] += 1
            first = (first_view(case[0]), case[3])
            self.assertIs(is_counted_table(*case, {key: found[key] for key in found if key != first}), False)
            self.assertIs(is_counted_table(*case, {}), False)
            self.assertIs(is_counted_table(*case, {first: GREAT}), False)
        self.assertGreater(min(told), 5)

    def test_keys_that_are_no_pairs(self):
        for case in self.CASES:
            found = counted_table(*case)
            first = first_view(case[0])
            most = case[3]
            keys = no_views(first) + [(thing, most) for thing in no_views(first)]
            keys += [(first,), (first, most, 0), (most, first), first, first + (most,), ((first, most),), (first, None)]
            keys += [(first, left) for left in (-1, -GREAT, most + 1, 10, GREAT, str(most), None, (most,), "")]
            keys += [(replaced(first, 0, "0"), most), (replaced(first, 3, "night"), most), ((), 0), ()]
            for key in keys:
                self.assertIs(is_counted_table(*case, {**found, key: 0}), False)
                self.assertIs(is_counted_table(*case, {**found, key: GREAT}), False)

    def test_flags_inside_keys(self):
        for case in self.CASES:
            found = counted_table(*case)
            for key in found:
                rest = {other: found[other] for other in found if other != key}
                if key[1] in (0, 1):
                    spoiled = {**rest, (key[0], bool(key[1])): found[key]}
                    self.assertEqual(spoiled, found)
                    self.assertIs(is_counted_table(*case, spoiled), False)
                for spoiled in flagged({key[0]: 0}):
                    for view in spoiled:
                        self.assertIs(is_counted_table(*case, {**rest, (view, key[1]): found[key]}), False)

    def test_pairs_added_that_never_come(self):
        case = (rent(), line(), (1, 1), 1)
        found = counted_table(*case)
        key = ((1, 0, (0, 2), None), 0)
        self.assertNotIn(key, found)
        for number in (0, GREAT):
            spoiled = {**found, key: number}
            self.assertIs(is_counted_table(*case, spoiled), shows_counted(*case, spoiled))
        self.assertIs(is_counted_table(*case, {**found, key: GREAT}), True)

    def test_any_object(self):
        for case in self.CASES:
            for thing in objects():
                self.assertIs(is_counted_table(*case, thing), False)
            found = counted_table(*case)
            self.assertIs(is_counted_table(*case, list(found.items())), False)
            self.assertIs(is_counted_table(*case, list(found)), False)
            self.assertIs(is_counted_table(*case, tuple(found.items())), False)

    def test_unkept_shares_have_none(self):
        system, machine = rent(), free_machine(rent())
        for most in (0, 2):
            keys = pairs_walked(system, machine, most)
            for number in (0, 1, GREAT):
                self.assertIs(is_counted_table(system, machine, (98, 99), most, dict.fromkeys(keys, number)), False)


class ErrorsTest(unittest.TestCase):
    def test_errors_in_their_order(self):
        mode, moves, requests = JUST_TOO_MANY[0]
        self.assertEqual(mode, "free")
        large = System(moves, requests)
        for call in (counted_sums, counted_table):
            with self.assertRaises(Unsuited) as caught:
                call(rent(), STRANGE, (2, 2), None)
            self.assertEqual(caught.exception.name, "mist")
            with self.assertRaises(BadFraction):
                call(large, free_machine(large), (2, 2), None)
            with self.assertRaises(BadNumber):
                call(large, free_machine(large), (0, 1), 10)
            with self.assertRaises(TooMany) as caught:
                call(large, free_machine(large), (0, 1), 0)
            self.assertEqual(caught.exception.most, 1000)
        with self.assertRaises(NotKept):
            counted_sums(rent(), line(), (0, 1), 0)
        self.assertIsNone(counted_table(rent(), line(), (0, 1), 0))
        with self.assertRaises(Unsuited):
            is_counted_table(rent(), STRANGE, (1, 1), 0, {})

    def test_a_table_of_a_system_of_too_many_views(self):
        # It is judged by its own pairs alone.
        _, moves, requests = JUST_TOO_MANY[0]
        large = System(moves, requests)
        for thing in ({}, {(first_view(large), 0): 5}, None):
            self.assertIs(is_counted_table(large, free_machine(large), (2, 1), 0, thing), False)

    def test_any_object(self):
        for call in (counted_sums, counted_table):
            for thing in NO_FRACTIONS + [thing for thing in objects() if thing != (1, 1)]:
                with self.assertRaises(BadFraction):
                    call(rent(), line(), thing, 1)
            for thing in NO_MOST + [thing for thing in objects() if thing not in (0, 1, 2)]:
                with self.assertRaises(BadNumber):
                    call(rent(), line(), (2, 1), thing)
            for most in range(10):
                call(rent(), line(), (2, 1), most)


if __name__ == "__main__":
    unittest.main()
