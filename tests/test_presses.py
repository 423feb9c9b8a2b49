import unittest
from fractions import Fraction

from helpers import (
    GREAT, MODES, detour, flagged, fraction, line, no_views, number_spoils, objects, outcomes, pages, pair, rent,
    shows_least, slope,
)
from hintslie.errors import BadFraction, BadMode, TooMany, Unsuited
from hintslie.machines import Machine, free_machine
from hintslie.presses import is_press, press
from hintslie.shares import least_share
from hintslie.systems import System
from hintslie.tables import kept, table
from hintslie.views import asks, first_view, is_view
from test_shares import NONE, drawn, drawn_charges
from test_tables import NO_FRACTIONS
from test_views import JUST_LET, JUST_TOO_MANY, NO_MODES, STRANGE

LITTLE = Fraction(1, 10 ** 6)


def pressed():
    """Cases (system, machine, mode, least share, charge) with their presses."""
    found = []
    for system, machine, mode, charge in (
        (rent(), free_machine(rent()), "none", (0, 1)), (rent(), line(), "free", (1, 2)),
        (rent(), free_machine(rent()), "true", (0, 1)), (rent(), free_machine(rent()), "free", (3, 4)),
        (pages(), free_machine(pages()), "none", (1, 1)), (slope(), free_machine(slope()), "free", (1, 3)),
        (detour(), free_machine(detour()), "none", (2, 3)),
    ):
        share = least_share(system, machine, mode, charge)
        found.append(((system, machine, mode, share, charge), press(system, machine, mode, charge)))
    return found


class PressTest(unittest.TestCase):
    def test_each_clause(self):
        charges = drawn_charges(80)
        levels = nothing = 0
        for system, machine, mode in drawn(81, 250, 150, most_posts=4):
            charge = next(charges)
            found = press(system, machine, mode, charge)
            share = least_share(system, machine, mode, charge)
            self.assertIs(found is None, share == NONE)
            if found is None:
                nothing += 1
                continue
            case = (system, machine, mode, share, charge)
            self.assert_entries(case, found)
            self.assertTrue(shows_least(*case, found))
            self.assertIs(is_press(*case, found), True)
            levels += any(level for _, level, _ in found.values())
        self.assertGreater(levels, 5)
        self.assertGreater(nothing, 5)

    def assert_entries(self, case, found):
        self.assertIs(type(found), dict)
        for view, entry in found.items():
            self.assertIs(is_view(*case[:3], view), True)
            self.assertIs(type(entry), tuple)
            number, level, ask = entry
            self.assertIs(type(number), int)
            self.assertIs(type(level), int)
            self.assertGreaterEqual(level, 0)
            self.assertIn(ask, asks(*case[:3], view))

    def test_none_if_the_least_share_is_0(self):
        idle = System(((0, 1), (1, 0)), {"a": (0, 3), "b": (0, 0)})
        for mode in MODES:
            self.assertIsNone(press(idle, free_machine(idle), mode, (1, 2)))
            self.assertIsNone(press(rent(), Machine(({"day": 1}, {"over": 1})), mode, (1, 2)))
            self.assertIsNotNone(press(rent(), line(), mode, (1, 2)))

    def test_cases_of_the_tests(self):
        for case, found in pressed():
            self.assert_entries(case, found)
            self.assertTrue(shows_least(*case, found))
            self.assertIs(is_press(*case, found), True)

    def test_a_table_and_a_press_meet_at_the_least_share_alone(self):
        charges = drawn_charges(82)
        for system, machine, mode in drawn(83, 80):
            charge = next(charges)
            found = press(system, machine, mode, charge)
            if found is None:
                self.assertIsNotNone(table(system, machine, mode, NONE, charge))
                continue
            least = fraction(least_share(system, machine, mode, charge))
            for share in (least - LITTLE, least / 2, least, least + LITTLE, least + 1):
                case = (system, machine, mode, pair(share), charge)
                self.assertIs(kept(*case), share >= least)
                self.assertIs(is_press(*case, found), shows_least(*case, found))
                self.assertIs(is_press(*case, found) and kept(*case), share == least)

    def test_the_order_of_keys_means_nothing(self):
        other_rent = System(((0, 2), (0, 0)), {"over": (0, None), "day": (1, 0)})
        other_line = Machine(({"over": 1, "day": 0}, {"day": 2}, {"over": 0, "day": 2}))
        for mode in MODES:
            self.assertEqual(press(other_rent, other_line, mode, (1, 2)), press(rent(), line(), mode, (1, 2)))

    def test_what_was_returned_may_be_changed(self):
        for case, found in pressed():
            first = dict(found)
            is_press(*case, found)
            self.assertEqual(found, first)
            found.clear()
            self.assertEqual(press(*case[:3], case[4]), first)

    def test_many_views(self):
        for mode, moves, requests in JUST_LET:
            system = System(moves, requests)
            case = (system, free_machine(system), mode)
            share = least_share(*case, (2, 1))
            found = press(*case, (2, 1))
            self.assertIs(is_press(*case, share, (2, 1), found), True)
            self.assertTrue(shows_least(*case, share, (2, 1), found))


class IsPressTest(unittest.TestCase):
    def test_numbers_and_levels_moved_together(self):
        for case, found in pressed():
            for more, levels in ((1, 0), (-1, 3), (GREAT, 1), (-GREAT, GREAT), (0, 1)):
                moved = {view: (number + more, level + levels, ask) for view, (number, level, ask) in found.items()}
                self.assertIs(is_press(*case, moved), True)
            doubled = {view: (number, 2 * level, ask) for view, (number, level, ask) in found.items()}
            self.assertIs(is_press(*case, doubled), True)
            self.assertIs(is_press(*case, dict(reversed(list(found.items())))), True)

    def test_numbers(self):
        told = [0, 0]
        for case, found in pressed():
            for view, (number, level, ask) in found.items():
                for other in (number - 1, number + 1, number + GREAT, number - GREAT, number + 7):
                    spoiled = {**found, view: (other, level, ask)}
                    right = shows_least(*case, spoiled)
                    self.assertIs(is_press(*case, spoiled), right)
                    told[right] += 1
        self.assertGreater(min(told), 10)

    def test_levels(self):
        told = [0, 0]
        for case, found in pressed():
            for view, (number, level, ask) in found.items():
                for other in (level + 1, level - 1, 0, level + GREAT, level + 2):
                    spoiled = {**found, view: (number, other, ask)}
                    right = other >= 0 and shows_least(*case, spoiled)
                    self.assertIs(is_press(*case, spoiled), right)
                    told[right] += 1
        self.assertGreater(min(told), 5)

    def test_where_a_round_has_no_rise_the_level_counts(self):
        # The only row is over for ever: no price, no rise, so no level can be less than itself.
        machine = Machine(({"over": 0},))
        view, ask = (0, 0, (0, 2), None), ("over", None)
        for level in (0, 1, 5):
            for number in (0, -1, 4):
                thing = {view: (number, level, ask)}
                self.assertIs(is_press(rent(), machine, "none", (1, 1), (0, 1), thing), False)
        # A price of 1 with a rise of 1: at the share 1 it is just as much, and the rise lets the level be any.
        system = System(((0,),), {"x": (1,)})
        view, ask = (0, 0, (0,), None), ("x", None)
        for level in (0, 1, 5):
            for share, right in (((1, 1), True), ((2, 1), False), ((1, 2), True)):
                thing = {view: (3, level, ask)}
                self.assertIs(is_press(system, free_machine(system), "none", share, (0, 1), thing), right)

    def test_two_views_without_a_rise(self):
        # z is free and comes behind x in turn; the round of z has no rise, so its level must be above.
        system = System(((0,),), {"x": (1,), "z": (0,)})
        machine = Machine(({"x": 1}, {"z": 0}))
        first, second = (0, 0, (0,), None), (1, 0, (0,), None)
        for one in range(3):
            for other in range(3):
                for number in (-1, 0, 1):
                    thing = {first: (0, one, ("x", None)), second: (number, other, ("z", None))}
                    right = number == 0 and one < other
                    self.assertIs(is_press(system, machine, "none", (1, 1), (0, 1), thing), right)

    def test_asks(self):
        for case, found in pressed():
            for view, (number, level, ask) in found.items():
                for other in asks(*case[:3], view):
                    spoiled = {**found, view: (number, level, other)}
                    self.assertIs(is_press(*case, spoiled), shows_least(*case, spoiled))
                strange = objects() + [list(ask), ask[:1], ask + (None,), ask[::-1], ("night", ask[1])]
                strange += [entry[2] for entry in found.values()]
                for other in strange:
                    if other not in asks(*case[:3], view):
                        self.assertIs(is_press(*case, {**found, view: (number - GREAT, level, other)}), False)

    def test_flags_and_others_in_the_place_of_numbers(self):
        for case, found in pressed():
            for view, (number, level, ask) in found.items():
                for thing in number_spoils():
                    if not (type(thing) is int):
                        self.assertIs(is_press(*case, {**found, view: (thing, level, ask)}), False)
                    self.assertIs(is_press(*case, {**found, view: (number, thing, ask)}), False)
                self.assertIs(is_press(*case, {**found, view: (number, bool(level), ask)}), False)

    def test_entries(self):
        for case, found in pressed():
            for view, entry in found.items():
                for thing in objects() + [list(entry), entry[:2], entry + (0,), entry[::-1], entry[0], entry[2]]:
                    self.assertIs(is_press(*case, {**found, view: thing}), False)

    def test_keys_left_out_and_added(self):
        for case, found in pressed():
            for view in found:
                rest = {key: found[key] for key in found if key != view}
                self.assertIs(is_press(*case, rest), shows_least(*case, rest))
            first = first_view(case[0])
            self.assertIs(is_press(*case, {key: found[key] for key in found if key != first}), False)
            self.assertIs(is_press(*case, {}), False)
            for key in no_views(first):
                self.assertIs(is_press(*case, {**found, key: found[first]}), False)

    def test_flags_inside_keys(self):
        for case, found in pressed():
            for spoiled in flagged(found):
                self.assertEqual(spoiled, found)
                self.assertIs(is_press(*case, spoiled), False)

    def test_other_terms(self):
        for case, found in pressed():
            for share, charge in (((99, 1), (0, 1)), ((1, 99), (0, 1)), ((98, 97), (5, 1)), (case[3], (99, 1))):
                other = (*case[:3], share, charge)
                self.assertIs(is_press(*other, found), shows_least(*other, found))

    def test_views_that_never_come(self):
        case, found = pressed()[0]
        # At post 1 with offsets that never come behind an over.
        view = (0, 1, (0, 2), None)
        for ask, results in outcomes(*case[:3], view).items():
            level = 1 + max([0] + [found[result[0]][1] for result in results if result[0] in found])
            spoiled = {**found, view: (-GREAT, level, ask)}
            self.assertIs(is_press(*case, spoiled), shows_least(*case, spoiled))

    def test_any_object(self):
        for case, found in pressed():
            for thing in objects():
                self.assertIs(is_press(*case, thing), False)
            self.assertIs(is_press(*case, list(found.items())), False)
            self.assertIs(is_press(*case, tuple(found)), False)
            self.assertIs(is_press(*case, table(*case)), False)


class ErrorsTest(unittest.TestCase):
    def test_unsuited(self):
        for call in (
            lambda: press(rent(), STRANGE, "no", None), lambda: is_press(rent(), STRANGE, "none", (1, 1), (0, 1), {}),
        ):
            with self.assertRaises(Unsuited) as caught:
                call()
            self.assertEqual(caught.exception.name, "mist")

    def test_bad_mode(self):
        for mode in NO_MODES + objects():
            with self.assertRaises(BadMode):
                press(rent(), line(), mode, None)

    def test_bad_fraction(self):
        for thing in NO_FRACTIONS + [thing for thing in objects() if thing != (1, 1)]:
            with self.assertRaises(BadFraction):
                press(rent(), line(), "free", thing)

    def test_too_many(self):
        for mode, moves, requests in JUST_TOO_MANY:
            system = System(moves, requests)
            with self.assertRaises(TooMany) as caught:
                press(system, free_machine(system), mode, (1, 2))
            self.assertEqual(caught.exception.most, 1000)
            with self.assertRaises(BadFraction):
                press(system, free_machine(system), mode, (2, 4))
            # The one that judges goes through the views of what it is given alone.
            self.assertIs(is_press(system, free_machine(system), mode, (1, 2), (0, 1), {}), False)


if __name__ == "__main__":
    unittest.main()
