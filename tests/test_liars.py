import unittest

from helpers import GREAT, MODES, detour, flagged, line, no_views, objects, pages, rent, shows_not_kept, walked
from hintslie.errors import BadFraction, BadMode, TooMany, Unsuited
from hintslie.liars import is_liar, liar
from hintslie.machines import Machine, free_machine
from hintslie.systems import System
from hintslie.tables import kept
from hintslie.views import asks, first_view, is_view
from test_tables import NO_FRACTIONS, SHARES, broad, cases
from test_views import JUST_LET, JUST_TOO_MANY, NO_MODES, STRANGE

UNKEPT = [
    (rent(), free_machine(rent()), "none", (4, 3), (0, 1)), (rent(), line(), "free", (1, 1), (1, 3)),
    (pages(), free_machine(pages()), "true", (1, 2), (0, 1)), (rent(), free_machine(rent()), "free", (6, 5), (1, 4)),
]


class LiarTest(unittest.TestCase):
    def test_each_clause(self):
        told = [0, 0]
        for case in cases() + broad(40, 80):
            found = liar(*case)
            right = kept(*case)
            self.assertIs(found is None, right)
            told[right] += 1
            if found is not None:
                self.assertIsInstance(found, dict)
                self.assert_entries(case, found)
                self.assertTrue(shows_not_kept(*case, found))
                self.assertIs(is_liar(*case, found), True)
        self.assertGreater(min(told), 50)

    def assert_entries(self, case, found):
        for view, entry in found.items():
            self.assertIs(is_view(*case[:3], view), True)
            self.assertIs(type(entry), tuple)
            self.assertEqual(len(entry), 2)
            self.assertIs(type(entry[0]), int)
            self.assertIn(entry[1], asks(*case[:3], view))

    def test_example(self):
        self.assertIsNone(liar(rent(), free_machine(rent()), "none", (3, 2), (0, 1)))
        self.assertIsNotNone(liar(rent(), free_machine(rent()), "none", (97, 65), (0, 1)))
        self.assertIsNotNone(liar(detour(), free_machine(detour()), "none", (0, 1), (0, 1)))

    def test_the_order_of_keys_means_nothing(self):
        other_rent = System(((0, 2), (0, 0)), {"over": (0, None), "day": (1, 0)})
        other_line = Machine(({"over": 1, "day": 0}, {"day": 2}, {"over": 0, "day": 2}))
        for mode in MODES:
            for share in SHARES:
                terms = (mode, share, (1, 2))
                self.assertEqual(liar(other_rent, other_line, *terms), liar(rent(), line(), *terms))

    def test_what_was_returned_may_be_changed(self):
        for case in UNKEPT:
            found = liar(*case)
            first = dict(found)
            found.clear()
            self.assertEqual(liar(*case), first)
            is_liar(*case, first)
            self.assertEqual(liar(*case), first)

    def test_long_circles_of_little_weight(self):
        system = System(((0,),), {"x": (0,), "y": (1,)})
        for states in (1, 2, 3, 4):
            turns = [{"x": state + 1} for state in range(states - 1)] + [{"y": 0}]
            case = (system, Machine(tuple(turns)), "none", (0, 1), (0, 1))
            found = liar(*case)
            self.assertEqual(len(found), states)
            self.assertIs(is_liar(*case, found), True)
            self.assertTrue(shows_not_kept(*case, found))

    def test_many_views(self):
        for mode, moves, requests in JUST_LET:
            system = System(moves, requests)
            case = (system, free_machine(system), mode, (98, 97), (1, 99))
            found = liar(*case)
            self.assertIs(is_liar(*case, found), True)
            self.assertTrue(shows_not_kept(*case, found))


class IsLiarTest(unittest.TestCase):
    def test_numbers(self):
        for case in UNKEPT:
            found = liar(*case)
            most = len(found) + 1
            for view, (number, ask) in found.items():
                for other in (number - 1, number + 1, number + most, number - most, number + GREAT, number - GREAT):
                    spoiled = {**found, view: (other, ask)}
                    self.assertIs(is_liar(*case, spoiled), shows_not_kept(*case, spoiled))
                for thing in objects():
                    if type(thing) is not int:
                        self.assertIs(is_liar(*case, {**found, view: (thing, ask)}), False)
                    self.assertIs(is_liar(*case, {**found, view: thing}), False)
                entries = [[number, ask], (number,), (number, ask, 0), (ask, number), ask, number, (bool(number), ask)]
                for entry in entries:
                    self.assertIs(is_liar(*case, {**found, view: entry}), False)

    def test_moved_numbers(self):
        for case in UNKEPT:
            found = liar(*case)
            for more in (1, -1, GREAT, -GREAT):
                moved = {view: (number + more, ask) for view, (number, ask) in found.items()}
                self.assertIs(is_liar(*case, moved), True)
            self.assertIs(is_liar(*case, dict(reversed(list(found.items())))), True)

    def test_the_1_less_counts(self):
        # One view, answered in itself: the number of v is on both sides, so M times the weight must be 1 at least.
        system = System(((0,),), {"x": (1,)})
        case = (system, free_machine(system), "none")
        thing = {(0, 0, (0,), None): (0, ("x", None))}
        self.assertIs(is_liar(*case, (1, 1), (0, 1), thing), False)
        self.assertIs(is_liar(*case, (98, 99), (0, 1), thing), True)
        self.assertIs(is_liar(*case, (2, 1), (0, 1), thing), False)

    def test_m_is_the_number_of_the_views_and_1_more(self):
        # Two posts in turn, a price of 1 in every second round: M is 3, so the numbers may differ by 2.
        system = System(((0, 0), (0, 0)), {"x": (0, None), "y": (None, 1)})
        machine = Machine(({"x": 1}, {"y": 0}))
        first, second = (0, 0, (0, 0), None), (1, 0, (0, 0), None)
        third = (0, 1, (0, 0), None)
        case = (system, machine, "none", (0, 1), (0, 1))
        self.assertEqual(set(walked(system, machine, "none")), {first, second, third})
        for number in range(-6, 7):
            for other in range(-6, 7):
                thing = {first: (number, ("x", None)), second: (0, ("y", None)), third: (other, ("x", None))}
                right = number <= -1 and other <= -1 and 0 <= 4 - 1 + other
                self.assertIs(is_liar(*case, thing), right)

    def test_asks(self):
        for case in UNKEPT:
            found = liar(*case)
            for view, (number, ask) in found.items():
                for other in asks(*case[:3], view):
                    spoiled = {**found, view: (number, other)}
                    self.assertIs(is_liar(*case, spoiled), shows_not_kept(*case, spoiled))
                for other in objects() + [list(ask), ask[:1], ask + (None,), (ask[1], ask[0]), ("night", ask[1])]:
                    if other not in asks(*case[:3], view):
                        self.assertIs(is_liar(*case, {**found, view: (number - GREAT, other)}), False)

    def test_keys_left_out(self):
        for case in UNKEPT:
            found = liar(*case)
            for view in found:
                spoiled = {key: found[key] for key in found if key != view}
                self.assertIs(is_liar(*case, spoiled), shows_not_kept(*case, spoiled))
            rest = {key: found[key] for key in found if key != first_view(case[0])}
            self.assertIs(is_liar(*case, rest), False)
            self.assertIs(is_liar(*case, {}), False)

    def test_keys_added(self):
        for case in UNKEPT:
            found = liar(*case)
            first = first_view(case[0])
            for key in no_views(first):
                self.assertIs(is_liar(*case, {**found, key: found[first]}), False)

    def test_flags_inside_keys(self):
        for case in UNKEPT:
            found = liar(*case)
            for spoiled in flagged(found):
                self.assertEqual(spoiled, found)
                self.assertIs(is_liar(*case, spoiled), False)

    def test_any_object(self):
        for case in UNKEPT:
            for thing in objects():
                self.assertIs(is_liar(*case, thing), False)
            self.assertIs(is_liar(*case, list(liar(*case).items())), False)

    def test_kept_terms_have_none(self):
        found = liar(rent(), free_machine(rent()), "none", (4, 3), (0, 1))
        self.assertIs(is_liar(rent(), free_machine(rent()), "none", (3, 2), (0, 1), found), False)


class ErrorsTest(unittest.TestCase):
    def test_unsuited(self):
        with self.assertRaises(Unsuited) as caught:
            liar(rent(), STRANGE, "no", (2, 2), None)
        self.assertEqual(caught.exception.name, "mist")
        with self.assertRaises(Unsuited):
            is_liar(rent(), STRANGE, "none", (1, 1), (0, 1), {})

    def test_bad_mode(self):
        for mode in NO_MODES + objects():
            with self.assertRaises(BadMode):
                liar(rent(), line(), mode, None, None)

    def test_bad_fraction(self):
        for thing in NO_FRACTIONS + [thing for thing in objects() if thing != (1, 1)]:
            with self.assertRaises(BadFraction):
                liar(rent(), line(), "free", thing, (0, 1))
            with self.assertRaises(BadFraction):
                liar(rent(), line(), "free", (1, 1), thing)
        self.assertIsNotNone(liar(rent(), line(), "free", (0, 1), (0, 1)))

    def test_too_many(self):
        for mode, moves, requests in JUST_TOO_MANY:
            system = System(moves, requests)
            with self.assertRaises(TooMany) as caught:
                liar(system, free_machine(system), mode, (1, 2), (0, 1))
            self.assertEqual(caught.exception.most, 1000)
            with self.assertRaises(BadFraction):
                liar(system, free_machine(system), mode, (1, 2), [0, 1])


if __name__ == "__main__":
    unittest.main()
