import random
import unittest
from fractions import Fraction

from helpers import GREAT, MODES, detour, fraction, line, made, objects, rent, served_posts, stall
from hintslie.errors import (
    BadAsk, BadAsks, BadFraction, BadMode, BadNumber, BadPost, BadStyle, HintError, NotNow, Unsuited,
)
from hintslie.machines import Machine, free_machine
from hintslie.matches import Match, played
from hintslie.systems import System
from hintslie.views import answered, asks, first_view
from hintslie.wisest import wisest
from test_shares import drawn_charges
from test_styles import NO_STYLES, STYLES, slow_post
from test_tables import NO_FRACTIONS, coprime
from test_views import NO_MODES, STRANGE


def standing(match):
    """All that a match tells of how it stands."""
    return (
        match.view, match.asked, match.rounds, match.paid, match.wisest, match.lies, tuple(match.history()),
        match.balance((3, 2), (1, 7)),
    )


class Walk:
    """What a match has to tell, kept by the functions of views alone, one item for each ask and answer."""

    def __init__(self, system, machine, mode):
        self.told = (system, machine, mode)
        self.stands = [(first_view(system), None, 0, 0, 0, 0, ())]

    def ask(self, ask):
        view, _, *rest = self.stands[-1]
        self.stands.append((view, ask, *rest))

    def answer(self, post):
        view, ask, rounds, paid, risen, lies, history = self.stands[-1]
        view, price, rise, lie = answered(*self.told, view, ask, post)
        history += ((*ask, post),)
        self.stands.append((view, None, rounds + 1, paid + price, risen + rise, lies + lie, history))

    def back(self, many):
        del self.stands[-many:]

    def standing(self):
        paid, risen, lies = self.stands[-1][3:6]
        balance = Fraction(paid) - Fraction(3, 2) * risen - Fraction(1, 7) * lies
        return self.stands[-1] + (balance.as_integer_ratio(),)


def open_match(system, machine, mode, chance, many):
    """A match in which so many asks and answers were made, and its walk."""
    match, walk = Match(system, machine, mode), Walk(system, machine, mode)
    for _ in range(many):
        if match.asked is None:
            ask = chance.choice(asks(system, machine, mode, match.view))
            match.ask(ask)
            walk.ask(ask)
        else:
            post = chance.choice(served_posts(system, match.asked[0]))
            match.answer(post)
            walk.answer(post)
    return match, walk


def cases(seed, many):
    return made(seed, many) + [(stall(), free_machine(stall()), mode) for mode in MODES] + [(rent(), line(), "free")]


class MatchTest(unittest.TestCase):
    def test_begins(self):
        for system, machine, mode in cases(300, 20):
            match = Match(system, machine, mode)
            self.assertEqual(standing(match), (first_view(system), None, 0, 0, 0, 0, (), (0, 1)))
            self.assertIsInstance(match.history(), list)

    def test_beside_a_walk(self):
        chance = random.Random(301)
        lies = below = 0
        for system, machine, mode in cases(302, 60):
            match, walk = Match(system, machine, mode), Walk(system, machine, mode)
            for _ in range(25):
                ask = chance.choice(asks(system, machine, mode, match.view))
                self.assertIsNone(match.ask(ask))
                walk.ask(ask)
                self.assertEqual(standing(match), walk.standing())
                post = chance.choice(served_posts(system, ask[0]))
                self.assertIsNone(match.answer(post))
                walk.answer(post)
                self.assertEqual(standing(match), walk.standing())
            row = [request for request, _, _ in match.history()]
            self.assertEqual(match.wisest, wisest(system, row)[0])
            lies += match.lies > 0
            below += match.balance((3, 2), (1, 7))[0] < 0
        self.assertGreater(lies, 10)
        self.assertGreater(below, 10)

    def test_known(self):
        match = Match(rent(), free_machine(rent()), "free")
        match.ask(("day", "over"))
        self.assertEqual(match.asked, ("day", "over"))
        match.answer(1)
        self.assertEqual((match.paid, match.wisest, match.lies, match.rounds), (2, 1, 0, 1))
        match.ask(("day", "day"))
        match.answer(1)
        self.assertEqual((match.paid, match.wisest, match.lies, match.rounds), (2, 2, 1, 2))
        self.assertEqual(match.view, (0, 1, (0, 0), "day"))
        self.assertEqual(match.history(), [("day", "over", 1), ("day", "day", 1)])

    def test_balance(self):
        chance = random.Random(303)
        charges = drawn_charges(304)
        for system, machine, mode in cases(305, 40):
            match, _ = open_match(system, machine, mode, chance, chance.randint(0, 41))
            for _ in range(4):
                share, charge = next(charges), next(charges)
                told = match.balance(share, charge)
                self.assertIs(type(told), tuple)
                self.assertTrue(all(type(item) is int for item in told) and told[1] > 0)
                self.assertTrue(coprime(abs(told[0]), told[1]))
                right = match.paid - fraction(share) * match.wisest - fraction(charge) * match.lies
                self.assertEqual(Fraction(*told), right)
                self.assertEqual(told, right.as_integer_ratio())

    def test_history_and_what_was_passed_may_be_changed(self):
        turns, requests = ({"day": 0, "over": 0},), {"day": (1, 0), "over": (0, None)}
        match = Match(System(((0, 2), (0, 0)), requests), Machine(turns), "none")
        turns[0].clear()
        requests.clear()
        match.ask(("day", None))
        match.answer(0)
        match.history().clear()
        self.assertEqual(match.history(), [("day", None, 0)])

    def test_not_now(self):
        match = Match(rent(), line(), "none")
        for thing in objects() + [0, 1]:
            with self.assertRaises(NotNow):
                match.answer(thing)
        match.ask(("day", None))
        for thing in objects() + [("day", None), ("over", None)]:
            with self.assertRaises(NotNow):
                match.ask(thing)
        self.assertEqual(standing(match), ((0, 0, (0, 2), None), ("day", None), 0, 0, 0, 0, (), (0, 1)))
        match.answer(0)
        with self.assertRaises(NotNow):
            match.answer(0)

    def test_bad_ask(self):
        match = Match(rent(), line(), "true")
        before = standing(match)
        for thing in objects() + [("day", "mist"), ("mist", "day"), ["day", "day"], ("over", "over"), ("day", None)]:
            with self.assertRaises(BadAsk):
                match.ask(thing)
            self.assertEqual(standing(match), before)
        match.ask(("day", "over"))
        match.answer(0)
        with self.assertRaises(BadAsk):
            match.ask(("day", "over"))
        match.ask(("over", "day"))

    def test_bad_post(self):
        match = Match(rent(), line(), "none")
        match.ask(("over", None))
        before = standing(match)
        for thing in objects() + [1, 2, -1, True, False, GREAT, "0", (0,)]:
            if thing != 0 or type(thing) is bool:
                with self.assertRaises(BadPost) as caught:
                    match.answer(thing)
                self.assertIs(caught.exception.post, thing)
                self.assertEqual(standing(match), before)
        match.answer(0)


class BackTest(unittest.TestCase):
    def test_one_some_and_all(self):
        chance = random.Random(310)
        for system, machine, mode in cases(311, 25):
            for made_so_far in (1, 2, 3, 8, 15):
                for many in sorted({1, 2, made_so_far - 1, made_so_far} & set(range(1, made_so_far + 1))):
                    match, walk = open_match(system, machine, mode, chance, made_so_far)
                    self.assertIsNone(match.back(many))
                    walk.back(many)
                    self.assertEqual(standing(match), walk.standing())
                    # It goes on from there as any other one.
                    if match.asked is None:
                        ask = asks(system, machine, mode, match.view)[-1]
                        match.ask(ask)
                        walk.ask(ask)
                    post = served_posts(system, match.asked[0])[-1]
                    match.answer(post)
                    walk.answer(post)
                    self.assertEqual(standing(match), walk.standing())
                    left = len(walk.stands) - 1
                    with self.assertRaises(BadNumber):
                        match.back(left + 1)
                    match.back(left)
                    self.assertEqual(standing(match), standing(Match(system, machine, mode)))

    def test_bad_number(self):
        match = Match(rent(), line(), "none")
        for thing in objects() + [0, 1, -1]:
            with self.assertRaises(BadNumber):
                match.back(thing)
        match.ask(("day", None))
        match.answer(0)
        match.ask(("day", None))
        before = standing(match)
        for thing in objects() + [0, -1, 4, GREAT, -GREAT, True, "1", (1,), [1], None]:
            if not (type(thing) is int and 1 <= thing <= 3):
                with self.assertRaises(BadNumber):
                    match.back(thing)
                self.assertEqual(standing(match), before)
        match.back(3)
        with self.assertRaises(BadNumber):
            match.back(1)


class CopyTest(unittest.TestCase):
    def test_goes_on_apart(self):
        chance = random.Random(320)
        for system, machine, mode in cases(321, 25):
            match, walk = open_match(system, machine, mode, chance, chance.randint(0, 12))
            other = match.copy()
            self.assertIs(type(other), Match)
            self.assertEqual(standing(other), walk.standing())
            if other.asked is None:
                other.ask(asks(system, machine, mode, other.view)[0])
            other.answer(served_posts(system, other.asked[0])[0])
            self.assertEqual(standing(match), walk.standing())
            begun = standing(other)
            if match.asked is not None:
                match.answer(served_posts(system, match.asked[0])[-1])
            match.ask(asks(system, machine, mode, match.view)[-1])
            self.assertEqual(standing(other), begun)

    def test_can_be_taken_back_likewise(self):
        chance = random.Random(322)
        for system, machine, mode in cases(323, 15):
            for many in range(1, 7):
                match, walk = open_match(system, machine, mode, chance, 6)
                other = match.copy()
                other.back(many)
                self.assertEqual(standing(match), walk.standing())
                third = match.copy().copy()
                match.back(6)
                self.assertEqual(standing(third), walk.standing())
                walk.back(many)
                self.assertEqual(standing(other), walk.standing())
                with self.assertRaises(BadNumber):
                    other.back(6 - many + 1)
                third.back(6)
                self.assertEqual(standing(third), standing(match))


class OwnError(Exception):
    pass


class TryingTest(unittest.TestCase):
    def test_puts_everything_back(self):
        chance = random.Random(330)
        for system, machine, mode in cases(331, 25):
            match, walk = open_match(system, machine, mode, chance, chance.randint(0, 9))

            def action(tried):
                self.assertIs(tried, match)
                for _ in range(chance.randint(0, 6)):
                    if tried.asked is None:
                        tried.ask(asks(system, machine, mode, tried.view)[-1])
                    else:
                        tried.answer(served_posts(system, tried.asked[0])[-1])
                return [standing(tried)]

            found = match.trying(action)
            self.assertIs(type(found), list)
            self.assertEqual(standing(match), walk.standing())
            for left in range(len(walk.stands) - 1, 0, -1):
                match.back(1)
                walk.back(1)
                self.assertEqual(standing(match), walk.standing())
            with self.assertRaises(BadNumber):
                match.back(1)

    def test_taken_back_within(self):
        chance = random.Random(332)
        for many in range(1, 8):
            match, walk = open_match(stall(), free_machine(stall()), "free", chance, 7)

            def action(tried):
                tried.back(many)
                if tried.asked is None:
                    tried.ask(("a", "a"))
                tried.answer(1)
                return None

            self.assertIsNone(match.trying(action))
            self.assertEqual(standing(match), walk.standing())
            match.back(7)
            self.assertEqual(standing(match), standing(Match(stall(), free_machine(stall()), "free")))

    def test_an_error_goes_on(self):
        for error in (OwnError("own"), BadNumber(), KeyError("key"), BadPost(7)):
            match, walk = open_match(rent(), line(), "free", random.Random(333), 5)

            def action(tried):
                if tried.asked is not None:
                    tried.answer(0)
                tried.ask(asks(rent(), line(), "free", tried.view)[0])
                raise error

            with self.assertRaises(type(error)) as caught:
                match.trying(action)
            self.assertIs(caught.exception, error)
            self.assertEqual(standing(match), walk.standing())
            match.back(5)

    def test_an_error_of_the_match_goes_on(self):
        match = Match(rent(), line(), "free")

        def action(tried):
            tried.ask(("day", "day"))
            tried.ask(("day", "day"))

        with self.assertRaises(NotNow):
            match.trying(action)
        self.assertIsNone(match.asked)
        with self.assertRaises(BadNumber):
            match.back(1)

    def test_a_trying_inside_a_trying(self):
        match = Match(rent(), free_machine(rent()), "none")
        seen = []

        def inner(tried):
            tried.answer(1)
            seen.append(standing(tried))
            raise OwnError("inner")

        def outer(tried):
            tried.ask(("day", None))
            before = standing(tried)
            with self.assertRaises(OwnError):
                tried.trying(inner)
            self.assertEqual(standing(tried), before)
            self.assertEqual(tried.trying(lambda again: again.answer(0)), None)
            self.assertEqual(standing(tried), before)
            tried.answer(0)
            seen.append(standing(tried))
            return "done"

        self.assertEqual(match.trying(outer), "done")
        self.assertEqual(standing(match), standing(Match(rent(), free_machine(rent()), "none")))
        self.assertEqual(seen[0][3], 2)
        self.assertEqual(seen[1][3], 1)

    def test_a_copy_made_within_stays(self):
        match = Match(rent(), free_machine(rent()), "none")

        def action(tried):
            tried.ask(("day", None))
            return tried.copy()

        other = match.trying(action)
        self.assertIsNone(match.asked)
        self.assertEqual(other.asked, ("day", None))
        other.back(1)


class MatchErrorsTest(unittest.TestCase):
    def test_unsuited_then_bad_mode(self):
        with self.assertRaises(Unsuited) as caught:
            Match(rent(), STRANGE, "no")
        self.assertEqual(caught.exception.name, "mist")
        for mode in NO_MODES + objects():
            with self.assertRaises(BadMode):
                Match(rent(), line(), mode)

    def test_bad_fraction(self):
        match = Match(rent(), line(), "free")
        match.ask(("day", "day"))
        for thing in NO_FRACTIONS + [thing for thing in objects() if thing != (1, 1)]:
            with self.assertRaises(BadFraction):
                match.balance(thing, (0, 1))
            with self.assertRaises(BadFraction):
                match.balance((1, 1), thing)
        self.assertEqual(match.balance((1, 1), (0, 1)), (0, 1))


class PlayedTest(unittest.TestCase):
    def row(self, system, machine, mode, style, chance, many):
        """Asks in turn, and what the play has by the functions of views and the words of 7.1."""
        view = first_view(system)
        row, posts, sums = [], [], [0, 0, 0]
        for _ in range(many):
            ask = chance.choice(asks(system, machine, mode, view))
            posts.append(slow_post(system, style, view, ask))
            view, *told = answered(system, machine, mode, view, ask, posts[-1])
            row.append(ask)
            sums = [total + one for total, one in zip(sums, told)]
        return row, (tuple(posts), *sums)

    def test_beside_a_walk(self):
        chance = random.Random(340)
        lies = 0
        for case in cases(341, 40):
            for style in STYLES:
                row, right = self.row(*case, style, chance, chance.choice((0, 1, 2, 9, 30)))
                found = played(*case, style, row)
                self.assertEqual(found, right)
                self.assertEqual(played(*case, style, tuple(row)), right)
                self.assertIs(type(found), tuple)
                self.assertIs(type(found[0]), tuple)
                lies += found[3] > 0
        self.assertGreater(lies, 20)

    def test_long_rows(self):
        chance = random.Random(342)
        for system in (stall(), detour(), rent()):
            for mode in MODES:
                row, right = self.row(system, free_machine(system), mode, "trust", chance, 300)
                self.assertEqual(played(system, free_machine(system), mode, "trust", row), right)

    def test_no_asks(self):
        for row in ([], ()):
            self.assertEqual(played(rent(), line(), "free", "near", row), ((), 0, 0, 0))

    def test_bad_asks(self):
        chance = random.Random(343)
        for case in cases(344, 20):
            row, _ = self.row(*case, "near", chance, 12)
            for index in (0, 1, 5, 11):
                for thing in [("mist", None), list(row[index]), row[index] + (0,), None, 0, ("a", "mist")]:
                    for last in ([], [None]):
                        with self.assertRaises(BadAsks) as caught:
                            played(*case, "near", row[:index] + [thing] + row[index + 1:] + last)
                        self.assertEqual(caught.exception.index, index)

    def test_asks_out_of_their_turn(self):
        row = [("day", None), ("over", None), ("over", None)]
        for many, index in ((3, 2), (2, None)):
            if index is None:
                played(rent(), line(), "none", "near", row[:many])
            else:
                with self.assertRaises(BadAsks) as caught:
                    played(rent(), line(), "none", "near", row[:many])
                self.assertEqual(caught.exception.index, index)
        with self.assertRaises(BadAsks) as caught:
            played(rent(), line(), "true", "near", (("day", "over"), ("day", "day")))
        self.assertEqual(caught.exception.index, 1)
        self.assertEqual(played(rent(), line(), "free", "near", (("day", "over"), ("day", "day")))[3], 1)

    def test_any_object(self):
        for thing in objects():
            if type(thing) in (list, tuple):
                if len(thing) > 0:
                    with self.assertRaises(BadAsks) as caught:
                        played(rent(), line(), "free", "near", thing)
                    self.assertEqual(caught.exception.index, 0)
            else:
                with self.assertRaises(BadAsks) as caught:
                    played(rent(), line(), "free", "near", thing)
                self.assertEqual(caught.exception.index, -1)
            with self.assertRaises(BadAsks) as caught:
                played(rent(), line(), "free", "near", [("day", "day"), thing])
            self.assertEqual(caught.exception.index, 1)

    def test_errors_in_their_order(self):
        with self.assertRaises(Unsuited):
            played(rent(), STRANGE, "no", "no", None)
        for mode in NO_MODES + objects():
            with self.assertRaises(BadMode):
                played(rent(), line(), mode, "no", None)
        for style in NO_STYLES + objects():
            with self.assertRaises(BadStyle):
                played(rent(), line(), "free", style, None)
        with self.assertRaises(HintError):
            played(rent(), line(), "free", "near", None)

    def test_what_was_passed_stays(self):
        row = [("day", "day"), ("over", "day")]
        played(rent(), line(), "free", "near", row)
        self.assertEqual(row, [("day", "day"), ("over", "day")])


if __name__ == "__main__":
    unittest.main()
