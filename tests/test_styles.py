import random
import unittest
from fractions import Fraction

from helpers import (
    GREAT, MODES, detour, fraction, is_plain_fraction, line, objects, pages, pair, rent, renting_by_hand, replaced,
    served_posts, slope, slow_way, stall, walked, weight,
)
from hintslie.errors import BadAsk, BadFraction, BadMode, BadStyle, BadView, NotKept, TooMany, Unsuited
from hintslie.knowledge import after_request
from hintslie.machines import Machine, free_machine
from hintslie.shares import least_share
from hintslie.styles import is_worst_round, style_post, style_share, style_sum, worst_round
from hintslie.systems import System
from hintslie.views import answered, asks, first_view
from test_shares import NONE, drawn, drawn_charges
from test_tables import NO_FRACTIONS
from test_views import JUST_LET, JUST_TOO_MANY, NO_MODES, STRANGE

STYLES = ("near", "calm", "trust", "offset")
NO_STYLES = ["", "Near", "nearer", "off", "calm ", b"near", ("trust",), ["near"], {"near": 1}, "none"]
LITTLE = Fraction(1, 10 ** 9)


def slow_post(system, style, view, ask):
    """The post of the style, by the words of the document."""
    request, hint = ask
    place, offsets = view[1], view[2]
    prices = system.requests[request]
    behind, _ = after_request(system, offsets, request)
    if style == "calm" and prices[place] == 0:
        return place
    numbers = {}
    for post in served_posts(system, request):
        way = slow_way(system.moves, place, post)
        numbers[post] = way + (behind[post] if style == "offset" else prices[post])
        if style == "trust" and hint is not None:
            numbers[post] += min(
                slow_way(system.moves, post, other) + system.requests[hint][other]
                for other in served_posts(system, hint)
            )
    return min(numbers, key=lambda post: (numbers[post], post))


def style_walk(system, machine, mode, style):
    """For each view to which a player of the style comes, the result of each ask there."""
    found = {}
    todo = [first_view(system)]
    while todo:
        view = todo.pop()
        if view not in found:
            found[view] = {
                ask: answered(system, machine, mode, view, ask, slow_post(system, style, view, ask))
                for ask in asks(system, machine, mode, view)
            }
            todo.extend(result[0] for result in found[view].values())
    return found


def slow_sum(system, machine, mode, style, share, charge):
    """The greatest balance of all plays of the style, in units, play by play; None if it grows without end."""
    graph = style_walk(system, machine, mode, style)
    reached = {view: 0 for view in graph}
    for _ in range(len(graph)):
        after = {
            view: max([0] + [weight(share, charge, result) + reached[result[0]] for result in graph[view].values()])
            for view in graph
        }
        if after == reached:
            return reached[first_view(system)]
        reached = after
    return None


def round_sums(system, machine, mode, style, thing):
    """The sums (price, rise, lie) of the round of a pair of tuples of asks; None if it is no round of the style."""
    ahead, rounds = thing
    view = first_view(system)
    sums = [0, 0, 0]
    for number, ask in enumerate(ahead + rounds):
        if number == len(ahead):
            begun = view
        if ask not in asks(system, machine, mode, view):
            return None
        view, *told = answered(system, machine, mode, view, ask, slow_post(system, style, view, ask))
        if number >= len(ahead):
            sums = [total + one for total, one in zip(sums, told)]
    return sums if rounds and view == begun else None


def shows_worst(system, machine, mode, style, charge, share, thing):
    """Whether the clauses of a worst round hold for a pair of tuples of asks, with the least share, or None."""
    sums = round_sums(system, machine, mode, style, thing)
    if sums is None:
        return False
    price, rise, lies = sums
    gained = price - fraction(charge) * lies
    if gained <= 0:
        return False
    return rise == 0 if share is None else rise > 0 and gained == fraction(share) * rise


def cases(seed, many, views=60):
    """Cases (system, machine, mode, style, charge)."""
    charges = drawn_charges(seed)
    chance = random.Random(seed + 1)
    return [
        one + (style, chance.choice([NONE, (1, 2), (3, 1), next(charges)]))
        for one in drawn(seed + 2, many, views) for style in STYLES
    ]


class StylePostTest(unittest.TestCase):
    def test_example(self):
        machine = free_machine(rent())
        self.assertEqual(style_post(rent(), machine, "none", "near", (0, 0, (0, 2), None), ("day", None)), 0)

    def test_each_style(self):
        # From post 0: near 3, 1 + 3, 2; the request costs 0 at post 1.
        moves = ((0, 1, 9), (2, 0, 3), (9, 1, 0))
        system = System(moves, {"a": (4, 0, 1), "b": (9, 9, 0), "c": (5, 5, None)})
        machine = free_machine(system)
        view = (0, 0, (0, 1, 4), None)
        for style, told in (("near", 1), ("calm", 1), ("trust", 1), ("offset", 1)):
            self.assertEqual(style_post(system, machine, "free", style, view, ("a", "a")), told)
        self.assertEqual(style_post(system, machine, "free", "near", view, ("c", "b")), 0)
        # With the way on to b: 5 + 4 from post 0, 1 + 5 + 3 from post 1: the first of both.
        self.assertEqual(style_post(system, machine, "free", "trust", view, ("c", "b")), 0)

    def test_trust_goes_where_the_hint_is_cheap(self):
        system = System(((0, 2), (2, 0)), {"a": (0, 1), "b": (5, 0)})
        machine = free_machine(system)
        view = (0, 0, (0, 2), None)
        self.assertEqual(style_post(system, machine, "free", "trust", view, ("a", "a")), 0)
        self.assertEqual(style_post(system, machine, "free", "trust", view, ("a", "b")), 0)
        cheap = System(((0, 1), (3, 0)), {"a": (1, 0), "b": (5, 0)})
        view = (0, 0, (0, 1), None)
        for mode, hint, told in (("none", None, 0), ("free", "a", 1), ("free", "b", 1), ("true", "b", 1)):
            self.assertEqual(style_post(cheap, free_machine(cheap), mode, "trust", view, ("a", hint)), told)
            self.assertEqual(style_post(cheap, free_machine(cheap), mode, "near", view, ("a", hint)), 0)

    def test_calm_stays_where_it_is_free(self):
        system = System(((0, 0), (0, 0)), {"a": (0, 0), "b": (1, 0)})
        machine = free_machine(system)
        for post in (0, 1):
            view = (0, post, (0, 0), None)
            self.assertEqual(style_post(system, machine, "none", "calm", view, ("a", None)), post)
            self.assertEqual(style_post(system, machine, "none", "near", view, ("a", None)), 0)
            self.assertEqual(style_post(system, machine, "none", "calm", view, ("b", None)), 1)

    def test_posts_at_which_it_cannot_be_served(self):
        view = (0, 1, (0, 0), None)
        for style in STYLES:
            self.assertEqual(style_post(rent(), free_machine(rent()), "none", style, view, ("over", None)), 0)
            self.assertEqual(style_post(pages(), free_machine(pages()), "none", style, (0, 0, (0, 1, 1), None),
                                        ("c", None)), 2)

    def test_beside_the_words(self):
        unlike = set()
        firsts = 0
        for system, machine, mode in drawn(100, 150, 80, most_posts=4) + [(stall(), free_machine(stall()), "free")]:
            for view in walked(system, machine, mode):
                for ask in asks(system, machine, mode, view):
                    told = [style_post(system, machine, mode, style, view, ask) for style in STYLES]
                    self.assertEqual(told, [slow_post(system, style, view, ask) for style in STYLES])
                    self.assertTrue(all(type(post) is int for post in told))
                    unlike |= {(a, b) for a in range(4) for b in range(4) if told[a] != told[b]}
                    firsts += told[0] not in served_posts(system, ask[0])
        self.assertEqual(len(unlike), 12)
        self.assertEqual(firsts, 0)

    def test_views_that_never_come(self):
        for post in (0, 1):
            for offsets in ((0, 0), (0, 1), (0, 2)):
                view = (2, post, offsets, "over")
                for ask in asks(rent(), line(), "free", view):
                    for style in STYLES:
                        self.assertEqual(style_post(rent(), line(), "free", style, view, ask),
                                         slow_post(rent(), style, view, ask))

    def test_errors_in_their_order(self):
        view, ask = (0, 0, (0, 2), None), ("day", "over")
        bad_view, bad_ask = (0, 0, (0, 3), None), ("over", "over")
        steps = [
            (Unsuited, (STRANGE, "no", "no", None, None)), (BadMode, (line(), "no", "no", None, None)),
            (BadStyle, (line(), "free", "no", None, None)), (BadView, (line(), "free", "near", bad_view, None)),
            (BadAsk, (line(), "free", "near", view, bad_ask)),
        ]
        for kind, arguments in steps:
            with self.assertRaises(kind):
                style_post(rent(), *arguments)
        self.assertEqual(style_post(rent(), line(), "free", "near", view, ask), 0)
        self.assertEqual(style_post(rent(), line(), "free", "near", view, ("over", "day")), 0)

    def test_wrong_arguments_of_any_kind(self):
        view, ask = (0, 0, (0, 2), None), ("day", "over")
        for thing in objects():
            with self.assertRaises(BadMode):
                style_post(rent(), line(), thing, "near", view, ask)
            with self.assertRaises(BadStyle):
                style_post(rent(), line(), "free", thing, view, ask)
            with self.assertRaises(BadView):
                style_post(rent(), line(), "free", "near", thing, ask)
            with self.assertRaises(BadAsk):
                style_post(rent(), line(), "free", "near", view, thing)
        for thing in NO_STYLES:
            with self.assertRaises(BadStyle):
                style_post(rent(), line(), "free", thing, view, ask)
        for thing in (list(view), replaced(view, 0, True), replaced(view, 1, False), replaced(view, 3, "mist")):
            with self.assertRaises(BadView):
                style_post(rent(), line(), "free", "near", thing, ask)
        for thing in (list(ask), ask + (None,), ("day", None), ("over", "over"), ("day", "mist")):
            with self.assertRaises(BadAsk):
                style_post(rent(), line(), "free", "near", view, thing)


class StyleShareTest(unittest.TestCase):
    def test_known(self):
        for price in range(1, 10):
            system = renting_by_hand(price)
            machine = free_machine(system)
            # Each of them rents for ever: the first post of several is 0, and the way there costs nothing.
            for style in STYLES:
                self.assertIsNone(style_share(system, machine, "none", style, NONE))
        for style in STYLES:
            self.assertEqual(style_share(pages(), free_machine(pages()), "none", style, NONE), (1, 1))
            self.assertEqual(style_share(rent(), Machine(({"over": 0},)), "free", style, (1, 2)), NONE)

    def test_kept_and_no_lesser_share_is(self):
        told = {None: 0, NONE: 0}
        for system, machine, mode, style, charge in cases(110, 90):
            share = style_share(system, machine, mode, style, charge)
            told[share] = told.get(share, 0) + 1
            terms = (system, machine, mode, style)
            if share is None:
                self.assertIsNone(slow_sum(*terms, (GREAT, 1), charge))
                continue
            self.assertTrue(is_plain_fraction(share))
            self.assertIsNotNone(slow_sum(*terms, share, charge))
            self.assertGreaterEqual(fraction(share), fraction(least_share(system, machine, mode, charge)))
            if share != NONE:
                self.assertIsNone(slow_sum(*terms, pair(fraction(share) - LITTLE), charge))
        self.assertGreater(min(told[None], told[NONE]), 10)
        self.assertGreater(len(told), 12)

    def test_systems_of_the_tests(self):
        for system in (stall(), slope(), detour()):
            for mode in MODES:
                for style in STYLES:
                    terms = (system, free_machine(system), mode, style)
                    share = style_share(*terms, (2, 3))
                    if share is not None:
                        self.assertIsNotNone(slow_sum(*terms, share, (2, 3)))
                        self.assertIsNone(slow_sum(*terms, pair(fraction(share) - LITTLE), (2, 3)))

    def test_the_order_of_keys_means_nothing(self):
        other_rent = System(((0, 2), (0, 0)), {"over": (0, None), "day": (1, 0)})
        other_line = Machine(({"over": 1, "day": 0}, {"day": 2}, {"over": 0, "day": 2}))
        for mode in MODES:
            for style in STYLES:
                terms = (mode, style, (1, 2))
                self.assertEqual(style_share(other_rent, other_line, *terms), style_share(rent(), line(), *terms))
                self.assertEqual(worst_round(other_rent, other_line, *terms), worst_round(rent(), line(), *terms))

    def test_many_views(self):
        for mode, moves, requests in JUST_LET:
            system = System(moves, requests)
            for style in STYLES:
                terms = (system, free_machine(system), mode, style, (1, 3))
                found = worst_round(*terms)
                self.assertTrue(shows_worst(*terms, style_share(*terms), found))


class StyleSumTest(unittest.TestCase):
    def test_beside_plays_gone_through(self):
        told = [0, 0, 0]
        shares = [Fraction(1), Fraction(3, 2), Fraction(2), Fraction(97, 89), Fraction(5, 7), Fraction(9)]
        chance = random.Random(120)
        for case in cases(121, 70):
            charge = case[4]
            least = style_share(*case)
            for share in chance.sample(shares, 2) + ([] if least is None else [fraction(least)]):
                number = slow_sum(*case[:4], pair(share), charge)
                self.assertEqual(number is None, least is None or share < fraction(least))
                if number is None:
                    told[0] += 1
                    with self.assertRaises(NotKept):
                        style_sum(*case[:4], pair(share), charge)
                    continue
                found = style_sum(*case[:4], pair(share), charge)
                self.assertTrue(is_plain_fraction(found))
                self.assertEqual(fraction(found), Fraction(number, share.denominator * charge[1]))
                told[1] += 1
                told[2] += number > 0
        self.assertGreater(min(told), 20)

    def test_known(self):
        system = renting_by_hand(1)
        # Buying at once is as good as renting: near rents (the first of both) day by day.
        self.assertEqual(style_sum(pages(), free_machine(pages()), "none", "near", (1, 1), NONE), (0, 1))
        with self.assertRaises(NotKept):
            style_sum(system, free_machine(system), "none", "near", (99, 1), NONE)


class WorstRoundTest(unittest.TestCase):
    def test_each_clause(self):
        told = {"none": 0, "share": 0, "endless": 0, "ahead": 0, "long": 0}
        for case in cases(130, 90):
            share = style_share(*case)
            found = worst_round(*case)
            self.assertIs(found is None, share == NONE)
            if found is None:
                told["none"] += 1
                continue
            self.assertIs(type(found), tuple)
            self.assertEqual(len(found), 2)
            self.assertTrue(all(type(part) is tuple for part in found))
            self.assertTrue(all(type(ask) is tuple for part in found for ask in part))
            self.assertTrue(shows_worst(*case, share, found))
            self.assertIs(is_worst_round(*case, found), True)
            told["endless" if share is None else "share"] += 1
            told["ahead"] += len(found[0]) > 0
            told["long"] += len(found[1]) > 1
        self.assertGreater(min(told.values()), 20)

    def test_none_exactly_if_the_least_share_is_0(self):
        idle = System(((0, 1), (1, 0)), {"a": (0, 3), "b": (0, 0)})
        for mode in MODES:
            for style in STYLES:
                self.assertIsNone(worst_round(idle, free_machine(idle), mode, style, (1, 2)))
                self.assertIsNotNone(worst_round(rent(), line(), mode, style, (1, 2)))


class IsWorstRoundTest(unittest.TestCase):
    CASES = [
        (rent(), free_machine(rent()), "none", "near", NONE), (rent(), line(), "free", "trust", (1, 2)),
        (rent(), line(), "true", "offset", NONE), (pages(), free_machine(pages()), "none", "calm", NONE),
        (stall(), free_machine(stall()), "free", "offset", (1, 3)),
        (slope(), free_machine(slope()), "free", "near", (1, 1)),
        (stall(), free_machine(stall()), "free", "trust", (3, 2)),
    ]

    def test_both_kinds_are_here(self):
        shares = [style_share(*case) for case in self.CASES]
        self.assertGreater(shares.count(None), 1)
        self.assertGreater(len(shares) - shares.count(None), 2)
        self.assertNotIn(NONE, shares)

    def test_longer_and_turned_rounds(self):
        for case in self.CASES:
            ahead, rounds = worst_round(*case)
            for thing in (
                (ahead, rounds * 2), (ahead + rounds, rounds), (ahead + rounds * 3, rounds * 50),
                (ahead + rounds[:1], rounds[1:] + rounds[:1]),
            ):
                self.assertTrue(shows_worst(*case, style_share(*case), thing))
                self.assertIs(is_worst_round(*case, thing), True)

    def test_drawn_pairs(self):
        told = [0, 0]
        chance = random.Random(140)
        for case in self.CASES:
            share = style_share(*case)
            graph = style_walk(*case[:4])
            for _ in range(300):
                view = first_view(case[0])
                walk = []
                for _ in range(chance.randint(0, 8)):
                    ask = chance.choice(sorted(graph[view], key=str))
                    walk.append(ask)
                    view = graph[view][ask][0]
                cut = chance.randint(0, len(walk))
                thing = (tuple(walk[:cut]), tuple(walk[cut:]))
                right = shows_worst(*case, share, thing)
                self.assertIs(is_worst_round(*case, thing), right)
                told[right] += 1
        self.assertGreater(min(told), 20)

    def test_spoiled_at_any_place(self):
        for case in self.CASES:
            share = style_share(*case)
            found = worst_round(*case)
            for pair_of_rows, more in ((found, objects()), (tuple(part * 2 for part in found), [])):
                for part in (0, 1):
                    row = pair_of_rows[part]
                    for index, ask in enumerate(row):
                        things = [("mist", ask[1]), (ask[0], "mist"), list(ask), ask[:1], ask + (None,), ask[::-1]]
                        for thing in things + [(ask[0], 0), None] + (more if index < 2 else []):
                            if thing != ask:
                                spoiled = replaced(pair_of_rows, part, replaced(row, index, thing))
                                right = type(thing) is tuple and shows_worst(*case, share, spoiled)
                                self.assertIs(is_worst_round(*case, spoiled), right)
                        spoiled = replaced(pair_of_rows, part, row[:index] + row[index + 1:])
                        self.assertIs(is_worst_round(*case, spoiled), shows_worst(*case, share, spoiled))

    def test_other_asks(self):
        for case in self.CASES:
            share = style_share(*case)
            ahead, rounds = worst_round(*case)
            names = sorted(case[0].names)
            others = [(name, hint) for name in names for hint in [None] + names]
            for index in range(len(rounds)):
                for ask in others:
                    spoiled = (ahead, replaced(rounds, index, ask))
                    self.assertIs(is_worst_round(*case, spoiled), shows_worst(*case, share, spoiled))

    def test_no_tuples(self):
        for case in self.CASES:
            ahead, rounds = worst_round(*case)
            for thing in (
                [ahead, rounds], (list(ahead), rounds), (ahead, list(rounds)), (ahead, rounds, ()), (rounds,),
                (ahead, ()), ((), ()), (None, rounds), (ahead, None), {0: ahead, 1: rounds},
                (ahead, dict.fromkeys(rounds)),
            ):
                self.assertIs(is_worst_round(*case, thing), False)

    def test_any_object(self):
        for case in self.CASES:
            ahead, rounds = worst_round(*case)
            for thing in objects():
                self.assertIs(is_worst_round(*case, thing), False)
                if thing != ():
                    self.assertIs(is_worst_round(*case, (thing, rounds)), False)
                self.assertIs(is_worst_round(*case, (ahead, thing)), False)

    def test_a_style_with_the_least_share_0_has_none(self):
        machine = Machine(({"over": 0},))
        for style in STYLES:
            case = (rent(), machine, "none", style, NONE)
            self.assertIs(is_worst_round(*case, ((), (("over", None),))), False)
            case = (rent(), machine, "free", style, (1, 2))
            self.assertIs(is_worst_round(*case, ((("over", "over"),), (("over", "over"),))), False)

    def test_what_was_passed_stays(self):
        case = self.CASES[1]
        found = worst_round(*case)
        self.assertIs(is_worst_round(*case, found), True)
        self.assertEqual(worst_round(*case), found)


class ErrorsTest(unittest.TestCase):
    def calls(self, system, machine, mode, style, charge):
        return [
            lambda: style_share(system, machine, mode, style, charge),
            lambda: style_sum(system, machine, mode, style, charge, (0, 1)),
            lambda: style_sum(system, machine, mode, style, (5, 1), charge),
            lambda: worst_round(system, machine, mode, style, charge),
        ]

    def test_errors_in_their_order(self):
        mode, moves, requests = JUST_TOO_MANY[0]
        system = System(moves, requests)
        for call in self.calls(rent(), STRANGE, "no", "no", (2, 2)):
            with self.assertRaises(Unsuited) as caught:
                call()
            self.assertEqual(caught.exception.name, "mist")
        for call in self.calls(system, free_machine(system), "no", "no", (2, 2)):
            with self.assertRaises(BadMode):
                call()
        for call in self.calls(system, free_machine(system), mode, "no", (2, 2)):
            with self.assertRaises(BadStyle):
                call()
        for call in self.calls(system, free_machine(system), mode, "near", (2, 2)):
            with self.assertRaises(BadFraction):
                call()
        for call in self.calls(system, free_machine(system), mode, "near", (1, 2)):
            with self.assertRaises(TooMany) as caught:
                call()
            self.assertEqual(caught.exception.most, 1000)
        with self.assertRaises(TooMany):
            style_sum(system, free_machine(system), mode, "near", (0, 1), (0, 1))
        with self.assertRaises(NotKept):
            style_sum(rent(), line(), "free", "near", (0, 1), (0, 1))

    def test_is_worst_round(self):
        with self.assertRaises(Unsuited):
            is_worst_round(rent(), STRANGE, "none", "near", NONE, None)
        for mode, moves, requests in JUST_TOO_MANY:
            system = System(moves, requests)
            for thing in (None, ((), ())):
                with self.assertRaises(TooMany) as caught:
                    is_worst_round(system, free_machine(system), mode, "near", NONE, thing)
                self.assertEqual(caught.exception.most, 1000)

    def test_any_object(self):
        for thing in objects() + NO_MODES:
            for call in self.calls(rent(), line(), thing, "near", NONE):
                with self.assertRaises(BadMode):
                    call()
        for thing in objects() + NO_STYLES:
            for call in self.calls(rent(), line(), "free", thing, NONE):
                with self.assertRaises(BadStyle):
                    call()
        for thing in NO_FRACTIONS + [thing for thing in objects() if thing != (1, 1)]:
            for call in self.calls(rent(), line(), "free", "near", thing):
                with self.assertRaises(BadFraction):
                    call()


if __name__ == "__main__":
    unittest.main()
