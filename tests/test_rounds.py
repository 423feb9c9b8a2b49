import random
import unittest
from fractions import Fraction

from helpers import (
    GREAT, MODES, detour, fraction, is_plain_fraction, line, objects, outcomes, pages, pair, rent, served_posts, single,
    slope, stall,
)
from hintslie.errors import BadFraction, BadMode, BadNumber, BadStyle, NotKept, TooMany, Unsuited
from hintslie.machines import Machine, free_machine
from hintslie.matches import Match, played
from hintslie.rounds import cruelest, rounds_sum
from hintslie.shares import least_share
from hintslie.styles import style_share, style_sum
from hintslie.systems import System
from hintslie.tables import kept, least_sum
from hintslie.views import answered, asks, first_view
from test_shares import NONE, drawn, drawn_charges
from test_styles import NO_STYLES, STYLES, slow_post
from test_tables import NO_FRACTIONS
from test_views import JUST_LET, JUST_TOO_MANY, NO_MODES, STRANGE

# Modes and systems of which just 1000 views, with their free machines, come within so many rounds, but more within
# one more; and such of which just 1001 come within so many.
LET_ROUNDS = (
    (5, "none", ((0, 7, 5, 4), (9, 0, 7, 2), (4, 6, 0, 4), (7, 9, 4, 0)),
     {"a": (9, 9, 6, 7), "b": (4, 1, 4, 4), "c": (8, 4, 8, 2), "d": (1, 9, 9, 2), "e": (4, 6, 0, 3)}),
    (31, "none", ((0, 8, 3, 7), (2, 0, 6, 8), (5, 2, 0, 9), (2, 4, 4, 0)),
     {"a": (0, 3, 4, 7), "b": (3, 4, 4, 3), "c": (5, 0, 0, 2)}),
)
TOO_MANY_ROUNDS = (
    (3, "free", ((0, 9, 7, 4), (2, 0, 5, 7), (6, 6, 0, 7), (7, 0, 7, 0)),
     {"a": (7, 5, 4, 5), "b": (2, 4, 4, 7), "c": (8, 7, 2, 0), "d": (9, 9, 5, 5), "e": (5, 6, 0, 6)}),
    (3, "true", ((0, 9, 7, 4), (2, 0, 5, 7), (6, 6, 0, 7), (7, 0, 7, 0)),
     {"a": (7, 5, 4, 5), "b": (2, 4, 4, 7), "c": (8, 7, 2, 0), "d": (9, 9, 5, 5), "e": (5, 6, 0, 6)}),
)
# The same of the views to which a player of a style comes.
LET_STYLES = (
    (7, "none", "offset", ((0, 8, 2, 6, 1), (2, 0, 6, 9, 6), (4, 7, 0, 8, 8), (6, 6, 8, 0, 7), (7, 8, 2, 5, 0)),
     {"a": (9, 5, 8, 7, 2), "b": (8, 2, 7, 2, 6), "c": (1, 4, 2, 4, 9), "d": (5, 2, 3, 2, 4), "e": (9, 1, 2, 9, 6)}),
    (13, "free", "trust", ((0, 3, 6), (9, 0, 6), (7, 8, 0)), {"a": (0, 3, 4), "b": (8, 1, 5), "c": (9, 9, 4)}),
)
TOO_MANY_STYLES = (
    (5, "free", "near", ((0, 7, 8), (7, 0, 7), (9, 9, 0)),
     {"a": (9, 4, 0), "b": (3, 6, 6), "c": (9, 3, 9), "d": (2, 1, 5), "e": (9, 7, 3)}),
    (5, "true", "calm", ((0, 7, 8), (7, 0, 7), (9, 9, 0)),
     {"a": (9, 4, 0), "b": (3, 6, 6), "c": (9, 3, 9), "d": (2, 1, 5), "e": (9, 7, 3)}),
)
NO_ROUNDS = [True, False, -1, 51, 100, GREAT, -GREAT, None, "1", b"1", [1], (1,), (), {}, {1: 1}, rent(), len]


def views_within(system, machine, mode, rounds, style=None):
    """The views that come within so many rounds, or those to which a player of the style comes."""
    found = {first_view(system)}
    last = found
    for _ in range(rounds):
        met = set()
        for view in last:
            for ask in asks(system, machine, mode, view):
                posts = served_posts(system, ask[0]) if style is None else [slow_post(system, style, view, ask)]
                met |= {answered(system, machine, mode, view, ask, post)[0] for post in posts}
        last = met - found
        found = found | last
    return found


def result_weight(share, charge, result):
    _, price, rise, lie = result
    return price - share * rise - charge * lie


class Tree:
    """All plays of at most so many rounds, gone through one by one."""

    def __init__(self, system, machine, mode, share, charge):
        self.told = (system, machine, mode)
        self.share, self.charge = fraction(share), fraction(charge)
        self.known = {}

    def results(self, view):
        if view not in self.known:
            self.known[view] = outcomes(*self.told, view)
        return self.known[view].values()

    def greatest(self, view, many, balance):
        """The greatest balance from here on that the player cannot prevent, when this is the balance now."""
        if many == 0:
            return balance
        return max([balance] + [
            min(
                self.greatest(result[0], many - 1, balance + result_weight(self.share, self.charge, result))
                for result in results
            )
            for results in self.results(view)
        ])


def slow_sums(system, machine, mode, share, charge, most):
    """The sums for 0, 1, .. most rounds, in one table of views after the other one."""
    tree = Tree(system, machine, mode, share, charge)

    def reached(view, many, told):
        if many == 0:
            return 0
        if (view, many) not in told:
            told[(view, many)] = max([0] + [
                min(
                    result_weight(tree.share, tree.charge, result) + reached(result[0], many - 1, told)
                    for result in results
                )
                for results in tree.results(view)
            ])
        return told[(view, many)]

    told = {}
    return [reached(first_view(system), many, told) for many in range(most + 1)]


def cases(seed, many, views=30):
    """Systems, machines, modes, shares and charges: such as are kept, and such as are not."""
    chance = random.Random(seed)
    charges = drawn_charges(seed + 1)
    shares = [(1, 1), (5, 4), (3, 2), (2, 1), (97, 89), (0, 1), (3, 1), (41, 36)]
    found = [
        (system, free_machine(system), mode, share, charge)
        for system in (rent(), pages(), single(), stall(), slope())
        for mode in MODES
        for share, charge in ((chance.choice(shares), chance.choice([NONE, (1, 2)])), ((3, 2), NONE))
    ]
    found += [(rent(), line(), mode, (1, 1), (1, 3)) for mode in MODES]
    for one in drawn(seed + 2, many, views):
        charge = chance.choice([NONE, (1, 2), (3, 1), next(charges)])
        least = least_share(*one, charge)
        found.append(one + (chance.choice(shares), charge))
        # Here the sums are the greatest that are kept, and here they grow.
        found.append(one + (least, charge))
        found.append(one + (pair(fraction(least) * Fraction(9, 10)), charge))
    return found


class RoundsSumTest(unittest.TestCase):
    def test_known(self):
        case = (rent(), free_machine(rent()), "none")
        # Three days of renting are one more than the wisest pays; who buys at once pays one more than for one day.
        self.assertEqual([rounds_sum(*case, (1, 1), NONE, many) for many in range(5)],
                         [(0, 1), (0, 1), (0, 1), (1, 1), (1, 1)])
        self.assertEqual(rounds_sum(*case, (3, 2), NONE, 50), (0, 1))
        self.assertEqual(rounds_sum(*case, (0, 1), NONE, 1), (1, 1))
        # To rent twice, or to buy and to hand it back: both cost 1 for each round.
        self.assertEqual(rounds_sum(*case, (0, 1), NONE, 2), (2, 1))
        self.assertEqual(rounds_sum(*case, (0, 1), NONE, 50), (50, 1))

    def test_beside_a_tree_of_all_plays(self):
        grown = 0
        for system, machine, mode, share, charge in cases(700, 40, 20):
            tree = Tree(system, machine, mode, share, charge)
            plays = max(len(results) for results in tree.results(first_view(system))) * 9
            for many in range(5 if plays < 20 else 4):
                right = tree.greatest(first_view(system), many, Fraction(0))
                found = rounds_sum(system, machine, mode, share, charge, many)
                self.assertTrue(is_plain_fraction(found))
                self.assertEqual(fraction(found), right)
                grown += right > 0
        self.assertGreater(grown, 100)

    def test_beside_more_rounds(self):
        for case in cases(710, 30):
            right = slow_sums(*case, 25)
            for many in (0, 1, 2, 5, 6, 11, 19, 25):
                self.assertEqual(fraction(rounds_sum(*case, many)), right[many])

    def test_facts(self):
        reached = grown = 0
        for case in cases(720, 90):
            found = [fraction(rounds_sum(*case, many)) for many in (0, 1, 2, 3, 4, 8, 25, 49, 50)]
            self.assertEqual(found, sorted(found))
            if kept(*case):
                least = fraction(least_sum(*case))
                self.assertLessEqual(found[-1], least)
                reached += least > 0
                if len(views_within(*case[:3], 50)) < 20:
                    self.assertEqual(found[-1], least)
            else:
                with self.assertRaises(NotKept):
                    least_sum(*case)
                # What goes round and round gains in each round of some views, of which there are few.
                if len(views_within(*case[:3], 50)) < 12:
                    self.assertGreater(found[-1], found[-3])
                    grown += 1
        self.assertGreater(min(reached, grown), 10)

    def test_only_views_within_the_rounds_count(self):
        for rounds, mode, moves, requests in LET_ROUNDS:
            system = System(moves, requests)
            machine = free_machine(system)
            self.assertEqual(len(views_within(system, machine, mode, rounds)), 1000)
            self.assertGreater(len(views_within(system, machine, mode, rounds + 1)), 1000)
            for many in (0, 1, rounds - 1, rounds):
                self.assertTrue(is_plain_fraction(rounds_sum(system, machine, mode, (2, 1), NONE, many)))
            for many in (rounds + 1, rounds + 2, 50):
                with self.assertRaises(TooMany) as caught:
                    rounds_sum(system, machine, mode, (2, 1), NONE, many)
                self.assertEqual(caught.exception.most, 1000)
        for rounds, mode, moves, requests in TOO_MANY_ROUNDS:
            system = System(moves, requests)
            machine = free_machine(system)
            self.assertEqual(len(views_within(system, machine, mode, rounds)), 1001)
            self.assertTrue(is_plain_fraction(rounds_sum(system, machine, mode, (2, 1), NONE, rounds - 1)))
            for many in (rounds, rounds + 1, 50):
                with self.assertRaises(TooMany):
                    rounds_sum(system, machine, mode, (2, 1), NONE, many)

    def test_many_views(self):
        for mode, moves, requests in JUST_LET:
            system = System(moves, requests)
            for share in ((1, 1), (3, 1)):
                case = (system, free_machine(system), mode, share, (1, 3))
                told = [fraction(rounds_sum(*case, many)) for many in (3, 50)]
                self.assertEqual(told, sorted(told))
                if kept(*case):
                    self.assertLessEqual(told[-1], fraction(least_sum(*case)))


class CruelestTest(unittest.TestCase):
    def greatest(self, system, machine, mode, style, share, charge, most):
        """The greatest balances of plays of 0, 1, .. most rounds, and all plays, gone through one by one."""
        plays = [((), first_view(system), Fraction(0))]
        told = [Fraction(0)]
        known = {}
        for _ in range(most):
            longer = []
            for row, view, balance in plays:
                for ask in asks(system, machine, mode, view):
                    if (view, ask) not in known:
                        post = slow_post(system, style, view, ask)
                        result = answered(system, machine, mode, view, ask, post)
                        known[(view, ask)] = (result[0], result_weight(fraction(share), fraction(charge), result))
                    behind, more = known[(view, ask)]
                    longer.append((row + (ask,), behind, balance + more))
            plays = longer
            told.append(max(balance for _, _, balance in plays))
        return told

    def check(self, case, many, told):
        """That the answer is the greatest balance, and its asks lead to it, as few as can be."""
        found = cruelest(*case, many)
        self.assertIs(type(found), tuple)
        balance, row = found
        self.assertTrue(is_plain_fraction(balance))
        self.assertIs(type(row), tuple)
        greatest = max(told[:many + 1])
        self.assertEqual(fraction(balance), greatest)
        self.assertEqual(len(row), told.index(greatest))
        if greatest == 0:
            self.assertEqual(found, ((0, 1), ()))
        system, machine, mode, style, share, charge = case
        _, paid, risen, lies = played(system, machine, mode, style, row)
        self.assertEqual(paid - fraction(share) * risen - fraction(charge) * lies, greatest)

    def test_known(self):
        case = (rent(), free_machine(rent()), "none")
        days = (("day", None),)
        self.assertEqual(cruelest(*case, "near", (1, 1), NONE, 2), ((0, 1), ()))
        self.assertEqual(cruelest(*case, "near", (1, 1), NONE, 3), ((1, 1), days * 3))
        self.assertEqual(cruelest(*case, "near", (1, 1), NONE, 50), ((48, 1), days * 50))
        self.assertEqual(cruelest(*case, "near", (1, 2), NONE, 0), ((0, 1), ()))

    def test_beside_all_plays_of_the_style(self):
        grown = short = 0
        for number, (system, machine, mode, share, charge) in enumerate(cases(730, 90)):
            style = STYLES[number % 4]
            case = (system, machine, mode, style, share, charge)
            widest = max(len(asks(system, machine, mode, view)) for view in views_within(system, machine, mode, 3))
            most = {1: 9, 2: 8, 3: 6, 4: 5}.get(widest, 3)
            told = self.greatest(*case, most)
            for many in range(most + 1):
                self.check(case, many, told)
            grown += max(told) > 0
            short += 0 < told.index(max(told)) < most
        self.assertGreater(min(grown, short), 8)

    def test_beside_the_least_sum_of_the_style(self):
        for system, machine, mode, share, charge in cases(740, 40):
            for style in STYLES:
                balance, row = cruelest(system, machine, mode, style, share, charge, 50)
                least = style_share(system, machine, mode, style, charge)
                if least is None or fraction(least) > fraction(share):
                    self.assertGreater(balance[0], 0)
                    self.assertGreater(len(row), 0)
                else:
                    sums = style_sum(system, machine, mode, style, share, charge)
                    self.assertLessEqual(fraction(balance), fraction(sums))

    def test_asks_in_a_match(self):
        system = stall()
        case = (system, free_machine(system), "free", "trust", (1, 1), (1, 2))
        balance, row = cruelest(*case, 20)
        match = Match(*case[:3])
        posts, _, _, _ = played(*case[:4], row)
        for ask, post in zip(row, posts):
            self.assertLess(fraction(match.balance((1, 1), (1, 2))), fraction(balance))
            match.ask(ask)
            match.answer(post)
        self.assertEqual(match.balance((1, 1), (1, 2)), balance)

    def test_only_views_of_the_player_within_the_rounds_count(self):
        for rounds, mode, style, moves, requests in LET_STYLES:
            system = System(moves, requests)
            machine = free_machine(system)
            self.assertEqual(len(views_within(system, machine, mode, rounds, style)), 1000)
            self.assertGreater(len(views_within(system, machine, mode, rounds + 1, style)), 1000)
            for many in (0, rounds - 1, rounds):
                cruelest(system, machine, mode, style, (2, 1), NONE, many)
            for many in (rounds + 1, 50):
                with self.assertRaises(TooMany) as caught:
                    cruelest(system, machine, mode, style, (2, 1), NONE, many)
                self.assertEqual(caught.exception.most, 1000)
        for rounds, mode, style, moves, requests in TOO_MANY_STYLES:
            system = System(moves, requests)
            machine = free_machine(system)
            self.assertEqual(len(views_within(system, machine, mode, rounds, style)), 1001)
            cruelest(system, machine, mode, style, (2, 1), NONE, rounds - 1)
            with self.assertRaises(TooMany):
                cruelest(system, machine, mode, style, (2, 1), NONE, rounds)
        # More than 1000 views come, but not to this player.
        mode, moves, requests = JUST_TOO_MANY[1]
        system = System(moves, requests)
        self.assertLess(len(views_within(system, free_machine(system), mode, 50, "near")), 1000)
        cruelest(system, free_machine(system), mode, "near", (2, 1), NONE, 50)


class ErrorsTest(unittest.TestCase):
    def calls(self, system, machine, mode, style, share, charge, many):
        return [
            lambda: rounds_sum(system, machine, mode, share, charge, many),
            lambda: cruelest(system, machine, mode, style, share, charge, many),
        ]

    def test_errors_in_their_order(self):
        _, mode, _, moves, requests = TOO_MANY_STYLES[0]
        system = System(moves, requests)
        machine = free_machine(system)
        for call in self.calls(rent(), STRANGE, "no", "no", (2, 2), None, None):
            with self.assertRaises(Unsuited) as caught:
                call()
            self.assertEqual(caught.exception.name, "mist")
        for call in self.calls(system, machine, "no", "no", (2, 2), None, None):
            with self.assertRaises(BadMode):
                call()
        with self.assertRaises(BadStyle):
            cruelest(system, machine, mode, "no", (2, 2), None, None)
        for terms in (((2, 2), (0, 1)), ((0, 1), (2, 2)), (None, None)):
            for call in self.calls(system, machine, mode, "near", *terms, None):
                with self.assertRaises(BadFraction):
                    call()
        for call in self.calls(system, machine, mode, "near", (0, 1), (0, 1), 51):
            with self.assertRaises(BadNumber):
                call()
        for call in self.calls(system, machine, mode, "near", (0, 1), (0, 1), 50):
            with self.assertRaises(TooMany):
                call()

    def test_any_object(self):
        for thing in objects() + NO_MODES:
            for call in self.calls(rent(), line(), thing, "near", (2, 1), NONE, 3):
                with self.assertRaises(BadMode):
                    call()
        for thing in objects() + NO_STYLES:
            with self.assertRaises(BadStyle):
                cruelest(rent(), line(), "free", thing, (2, 1), NONE, 3)
        for thing in NO_FRACTIONS + [thing for thing in objects() if thing != (1, 1)]:
            for terms in ((thing, NONE), ((2, 1), thing)):
                for call in self.calls(rent(), line(), "free", "near", *terms, 3):
                    with self.assertRaises(BadFraction):
                        call()
        for thing in NO_ROUNDS + [thing for thing in objects() if thing not in (0, 1, 2)]:
            for call in self.calls(rent(), line(), "free", "near", (2, 1), NONE, thing):
                with self.assertRaises(BadNumber):
                    call()
        for many in range(51):
            for call in self.calls(rent(), line(), "free", "near", (2, 1), NONE, many):
                call()

    def test_the_order_of_keys_means_nothing(self):
        other_rent = System(((0, 2), (0, 0)), {"over": (0, None), "day": (1, 0)})
        other_line = Machine(({"over": 1, "day": 0}, {"day": 2}, {"over": 0, "day": 2}))
        for mode in MODES:
            for many in range(8):
                for one, other in zip(self.calls(other_rent, other_line, mode, "near", (1, 1), (1, 3), many),
                                      self.calls(rent(), line(), mode, "near", (1, 1), (1, 3), many)):
                    self.assertEqual(one(), other())
        for one, other in zip(self.calls(detour(), free_machine(detour()), "free", "trust", (1, 1), NONE, 9),
                              self.calls(detour(), free_machine(detour()), "free", "trust", (1, 1), NONE, 9)):
            self.assertEqual(one(), other())


if __name__ == "__main__":
    unittest.main()
