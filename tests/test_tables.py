import random
import unittest

from helpers import (
    GREAT, MODES, flagged, line, made, no_views, number_spoils, objects, pages, rent, shows_kept, single, slow_numbers,
    walked, weight,
)
from hintslie.errors import BadFraction, BadMode, NotKept, TooMany, Unsuited
from hintslie.machines import Machine, free_machine
from hintslie.systems import System
from hintslie.tables import is_table, kept, least_sum, table
from hintslie.views import first_view, is_view
from test_views import JUST_LET, JUST_TOO_MANY, NO_MODES, STRANGE

NO_FRACTIONS = [
    (2, 2), (2, 4), (0, 2), (0, 99), (99, 33), (1, 0), (0, 0), (1, -1), (-1, 1), (-1, -1), (True, 1), (1, True),
    (False, 1), (True, True), [1, 1], [0, 1], (1,), (1, 1, 1), (), ((1, 1),), ("1", 1), (1, "1"), (1, None), (None, 1),
    "1/1", 1, {1: 1}, (GREAT, GREAT), (-GREAT, 1), (1, -GREAT), (1, (1,)), ([1], 1),
]
SHARES = [(0, 1), (1, 2), (1, 1), (4, 3), (3, 2), (5, 3), (2, 1), (3, 1), (7, 1)]
CHARGES = [(0, 1), (1, 2), (1, 1), (4, 1)]


def cases():
    """Systems, machines and modes of a few views, and shares and charges for them."""
    chance = random.Random(30)
    found = []
    for system in (rent(), pages(), single()):
        for mode in MODES:
            for share in SHARES:
                found.append((system, free_machine(system), mode, share, chance.choice(CHARGES)))
    for system, machine, mode in made(31, 150):
        if len(walked(system, machine, mode, 60)) <= 60:
            found.append((system, machine, mode, chance.choice(SHARES), chance.choice(CHARGES)))
    return found


def broad(seed, many):
    """Cases with tops and bottoms up to 99, close to what can be kept."""
    chance = random.Random(seed)
    found = []
    fine = [(p, q) for p in range(100) for q in range(1, 100) if coprime(p, q)]
    near = [(p, q) for p, q in fine if 9 * q < 10 * p < 30 * q]
    for system, machine, mode in made(seed, many, most_posts=4, most_requests=4, most=9):
        if len(walked(system, machine, mode, 120)) <= 120:
            found.append((system, machine, mode, chance.choice(near), chance.choice(fine)))
    return found


def coprime(p, q):
    while q:
        p, q = q, p % q
    return p == 1


class KeptTest(unittest.TestCase):
    def test_rent(self):
        system, machine = rent(), free_machine(rent())
        self.assertIs(kept(system, machine, "none", (1, 1), (0, 1)), False)
        self.assertIs(kept(system, machine, "none", (3, 2), (0, 1)), True)
        self.assertIs(kept(system, machine, "none", (52, 35), (0, 1)), False)
        self.assertIs(kept(system, machine, "none", (97, 65), (0, 1)), False)
        self.assertIs(kept(system, machine, "none", (98, 65), (0, 1)), True)
        self.assertIs(kept(system, machine, "true", (1, 1), (0, 1)), True)
        self.assertIs(kept(system, machine, "true", (98, 99), (0, 1)), False)
        self.assertIs(kept(system, machine, "free", (97, 65), (0, 1)), False)
        self.assertIs(kept(system, machine, "free", (3, 2), (0, 1)), True)
        self.assertIs(kept(system, machine, "free", (1, 1), (99, 1)), True)

    def test_beside_round_after_round(self):
        told = [0, 0]
        for case in cases():
            right = slow_numbers(*case) is not None
            self.assertIs(kept(*case), right, case)
            self.assertIs(table(*case) is not None, right)
            told[right] += 1
        self.assertGreater(min(told), 40)

    def test_share_0(self):
        system = System(((0, 1), (1, 0)), {"a": (0, 3), "b": (0, 0)})
        self.assertIs(kept(system, free_machine(system), "none", (0, 1), (0, 1)), True)
        self.assertIs(kept(rent(), free_machine(rent()), "none", (0, 1), (0, 1)), False)
        self.assertIs(kept(rent(), Machine(({"over": 0},)), "free", (0, 1), (0, 1)), True)


class TableTest(unittest.TestCase):
    def test_each_clause(self):
        for case in cases() + broad(32, 60):
            system, machine, mode, share, charge = case
            found = table(*case)
            if found is None:
                continue
            graph = walked(system, machine, mode)
            self.assertIsInstance(found, dict)
            self.assertEqual(set(found), set(graph))
            self.assertTrue(shows_kept(*case, found))
            self.assertIs(is_table(*case, found), True)
            for view, number in found.items():
                least = max([0] + [
                    min(weight(share, charge, result) + found[result[0]] for result in results)
                    for results in graph[view].values()
                ])
                self.assertIs(type(number), int)
                self.assertEqual(number, least)

    def test_least_numbers(self):
        for case in cases():
            self.assertEqual(table(*case), slow_numbers(*case))

    def test_keys_are_views(self):
        for case in cases()[:30]:
            for view in table(*case) or {}:
                self.assertIs(is_view(*case[:3], view), True)
                self.assertIs(type(view[0]), int)

    def test_the_order_of_keys_means_nothing(self):
        other_rent = System(((0, 2), (0, 0)), {"over": (0, None), "day": (1, 0)})
        other_line = Machine(({"over": 1, "day": 0}, {"day": 2}, {"over": 0, "day": 2}))
        for mode in MODES:
            for share in SHARES:
                terms = (mode, share, (1, 2))
                self.assertEqual(table(other_rent, other_line, *terms), table(rent(), line(), *terms))

    def test_what_was_returned_may_be_changed(self):
        case = (rent(), line(), "free", (2, 1), (1, 2))
        found = table(*case)
        first = dict(found)
        found.clear()
        self.assertEqual(table(*case), first)
        self.assertIsNot(table(*case), table(*case))

    def test_what_was_passed_may_be_changed(self):
        turns, requests = ({"day": 0, "over": 0},), {"day": (1, 0), "over": (0, None)}
        system, machine = System(((0, 2), (0, 0)), requests), Machine(turns)
        turns[0].clear()
        requests.clear()
        self.assertEqual(table(system, machine, "none", (3, 2), (0, 1)),
                         table(rent(), free_machine(rent()), "none", (3, 2), (0, 1)))
        thing = table(system, machine, "none", (3, 2), (0, 1))
        copied = dict(thing)
        is_table(system, machine, "none", (3, 2), (0, 1), thing)
        self.assertEqual(list(thing.items()), list(copied.items()))


class LeastSumTest(unittest.TestCase):
    def test_rent(self):
        self.assertEqual(least_sum(rent(), free_machine(rent()), "none", (3, 2), (0, 1)), (0, 1))
        self.assertEqual(least_sum(single(), free_machine(single()), "none", (1, 1), (0, 1)), (0, 1))

    def test_the_number_of_the_first_view_in_units(self):
        whole = shortened = 0
        tried = cases()
        for one in broad(33, 40) + tried[-60:]:
            tried.extend(one[:3] + (share, (5, 6)) for share in ((1, 1), (7, 6), (4, 3), (3, 2), (5, 3)))
        for case in tried:
            found = table(*case)
            if found is None:
                with self.assertRaises(NotKept):
                    least_sum(*case)
                continue
            number = found[first_view(case[0])]
            unit = case[3][1] * case[4][1]
            top, bottom = least_sum(*case)
            self.assertEqual(top * unit, number * bottom)
            self.assertTrue(coprime(top, bottom))
            self.assertGreater(bottom, 0)
            whole += number > 0
            shortened += number > 0 and bottom < unit
        self.assertGreater(whole, 10)
        self.assertGreater(shortened, 5)

    def test_bad_fraction_then_too_many_then_not_kept(self):
        mode, moves, requests = JUST_TOO_MANY[1]
        large = System(moves, requests)
        with self.assertRaises(BadFraction):
            least_sum(large, free_machine(large), mode, (0, 1), (2, 2))
        with self.assertRaises(TooMany) as caught:
            least_sum(large, free_machine(large), mode, (0, 1), (0, 1))
        self.assertEqual(caught.exception.most, 1000)
        with self.assertRaises(NotKept):
            least_sum(rent(), free_machine(rent()), "none", (0, 1), (0, 1))


class IsTableTest(unittest.TestCase):
    CASES = [
        (rent(), free_machine(rent()), "none", (3, 2), (0, 1)), (rent(), line(), "free", (2, 1), (1, 2)),
        (pages(), free_machine(pages()), "true", (2, 1), (0, 1)), (rent(), line(), "true", (5, 3), (3, 1)),
    ]

    def test_told_and_looser_tables(self):
        for case in self.CASES:
            found = table(*case)
            self.assertIs(is_table(*case, found), True)
            for more in (1, 7, GREAT):
                self.assertIs(is_table(*case, {view: number + more for view, number in found.items()}), True)
            self.assertIs(is_table(*case, dict(reversed(list(found.items())))), True)

    def test_other_terms(self):
        case = self.CASES[0]
        found = table(*case)
        self.assertIs(is_table(*case[:3], (1, 1), (0, 1), found), False)
        self.assertIs(is_table(*case[:3], (3, 2), (5, 1), found), True)
        self.assertIs(is_table(*case[:3], (3, 2), (0, 1), {view: number // 2 for view, number in found.items()}), False)
        case = self.CASES[1]
        for share in SHARES:
            for charge in CHARGES:
                terms = case[:3] + (share, charge)
                self.assertIs(is_table(*terms, table(*case)), shows_kept(*terms, table(*case)))

    def test_numbers(self):
        for case in self.CASES:
            found = table(*case)
            for view, number in found.items():
                self.assertIs(is_table(*case, {**found, view: number - 1}), False)
                for thing in number_spoils() + less_objects():
                    self.assertIs(is_table(*case, {**found, view: thing}), False)
                for more in (1, GREAT):
                    spoiled = {**found, view: number + more}
                    self.assertIs(is_table(*case, spoiled), shows_kept(*case, spoiled))

    def test_every_number_in_small_tables(self):
        case = (rent(), free_machine(rent()), "none", (2, 1), (0, 1))
        found = table(*case)
        right = 0
        for view in found:
            for other in found:
                for more in range(0, 4):
                    for fewer in range(-1, 3):
                        spoiled = {**found, view: found[view] + more, other: found[other] + fewer}
                        self.assertIs(is_table(*case, spoiled), shows_kept(*case, spoiled))
                        right += shows_kept(*case, spoiled)
        self.assertGreater(right, 20)

    def test_keys_left_out(self):
        for case in self.CASES:
            found = table(*case)
            for view in found:
                spoiled = {key: found[key] for key in found if key != view}
                self.assertIs(is_table(*case, spoiled), shows_kept(*case, spoiled))
            rest = {key: found[key] for key in found if key != first_view(case[0])}
            self.assertIs(is_table(*case, rest), False)
            self.assertIs(is_table(*case, {}), False)
            only = {first_view(case[0]): GREAT}
            self.assertIs(is_table(*case, only), False)

    def test_keys_added(self):
        for case in self.CASES:
            found = table(*case)
            for key in no_views(first_view(case[0])):
                self.assertIs(is_table(*case, {**found, key: 0}), False)
                self.assertIs(is_table(*case, {**found, key: GREAT}), False)

    def test_views_added_that_never_come(self):
        case = (rent(), line(), "free", (2, 1), (1, 2))
        found = table(*case)
        view = (1, 0, (0, 2), None)
        self.assertNotIn(view, found)
        self.assertIs(is_table(*case, {**found, view: GREAT}), True)
        view = (2, 0, (0, 2), "over")
        self.assertIs(is_table(*case, {**found, view: GREAT}), True)

    def test_flags_inside_keys(self):
        for case in self.CASES:
            found = table(*case)
            for spoiled in flagged(found):
                self.assertEqual(spoiled, found)
                self.assertIs(is_table(*case, spoiled), False)

    def test_any_object(self):
        for case in self.CASES:
            for thing in objects():
                self.assertIs(is_table(*case, thing), False)
            self.assertIs(is_table(*case, list(table(*case).items())), False)
            self.assertIs(is_table(*case, tuple(table(*case))), False)

    def test_hints_that_are_none_of_the_mode(self):
        found = table(rent(), free_machine(rent()), "free", (2, 1), (1, 1))
        self.assertIs(is_table(rent(), free_machine(rent()), "free", (2, 1), (1, 1), found), True)
        self.assertIs(is_table(rent(), free_machine(rent()), "none", (2, 1), (1, 1), found), False)

    def test_unkept_terms_have_none(self):
        case = (rent(), free_machine(rent()), "none", (4, 3), (0, 1))
        for number in (0, 1, GREAT):
            self.assertIs(is_table(*case, {view: number for view in walked(*case[:3])}), False)


def less_objects():
    return [thing for thing in objects() if type(thing) is not int]


class ErrorsTest(unittest.TestCase):
    CALLS = (kept, table, least_sum)

    def test_unsuited(self):
        for call in self.CALLS:
            with self.assertRaises(Unsuited) as caught:
                call(rent(), STRANGE, "no", (2, 2), None)
            self.assertEqual(caught.exception.name, "mist")
        with self.assertRaises(Unsuited) as caught:
            is_table(rent(), STRANGE, "none", (1, 1), (0, 1), {})
        self.assertEqual(caught.exception.name, "mist")

    def test_bad_mode(self):
        for call in self.CALLS:
            for mode in NO_MODES + objects():
                with self.assertRaises(BadMode):
                    call(rent(), line(), mode, (2, 1), (0, 1))
                with self.assertRaises(BadMode):
                    call(rent(), line(), mode, None, None)

    def test_bad_fraction(self):
        for call in self.CALLS:
            for thing in NO_FRACTIONS + [thing for thing in objects() if thing != (1, 1)]:
                with self.assertRaises(BadFraction):
                    call(rent(), line(), "free", thing, (0, 1))
                with self.assertRaises(BadFraction):
                    call(rent(), line(), "free", (2, 1), thing)

    def test_fractions_that_are_let(self):
        for share in ((0, 1), (1, 1), (99, 1), (1, 99), (98, 99), (97, 89)):
            for charge in ((0, 1), (1, 1), (99, 1), (1, 99), (99, 98)):
                case = (rent(), line(), "free", share, charge)
                right = kept(*case)
                self.assertIs(type(right), bool)
                self.assertIs(table(*case) is not None, right)

    def test_too_many(self):
        for mode, moves, requests in JUST_TOO_MANY:
            system = System(moves, requests)
            for call in self.CALLS:
                with self.assertRaises(TooMany) as caught:
                    call(system, free_machine(system), mode, (2, 1), (0, 1))
                self.assertEqual(caught.exception.most, 1000)
                with self.assertRaises(BadFraction):
                    call(system, free_machine(system), mode, (2, 1), (0, 2))

    def test_just_not_too_many(self):
        for mode, moves, requests in JUST_LET:
            system = System(moves, requests)
            case = (system, free_machine(system), mode, (9, 1), (1, 3))
            found = table(*case)
            self.assertEqual(len(found), 1000)
            self.assertIs(is_table(*case, found), True)


if __name__ == "__main__":
    unittest.main()
