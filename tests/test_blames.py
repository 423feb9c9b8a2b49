import random
import unittest

from helpers import MODES, fraction, line, objects, pages, rent, single, slope, slow_numbers, stall
from hintslie.blames import blamed
from hintslie.changes import without
from hintslie.errors import BadFraction, BadMachine, BadMode, TooMany, Unsuited
from hintslie.machines import Machine, free_machine
from hintslie.shares import least_share
from hintslie.systems import System
from test_shares import NONE, drawn, drawn_charges
from test_tables import NO_FRACTIONS
from test_views import JUST_TOO_MANY, NO_MODES, STRANGE


def slow_blamed(system, machine, mode, charge):
    """The names with which left out the least share is less, by the turns of the machine."""
    found = []
    most = fraction(least_share(system, machine, mode, charge))
    for name in sorted({name for turn in machine.turns for name in turn}):
        turns = tuple({other: turn[other] for other in turn if other != name} for turn in machine.turns)
        if all(turns) and fraction(least_share(system, Machine(turns), mode, charge)) < most:
            found.append(name)
    return found


class BlamedTest(unittest.TestCase):
    def test_known(self):
        machine = free_machine(rent())
        # Who only rents, or is only over, needs no hint: with over alone nothing is paid, with day alone one buys.
        self.assertEqual(blamed(rent(), machine, "none", NONE), ["day", "over"])
        self.assertEqual(least_share(rent(), without(machine, "day"), "none", NONE), (0, 1))
        self.assertEqual(blamed(rent(), Machine(({"over": 0},)), "none", NONE), [])
        # Each page costs a change alone, whatever the others are: but one page alone is held for ever.
        self.assertEqual(blamed(pages(), free_machine(pages()), "none", NONE), [])
        two = Machine(({"a": 0, "b": 0},))
        self.assertEqual(blamed(pages(), two, "none", NONE), ["a", "b"])
        three = System(((0, 5), (5, 0)), {"a": (0, 1), "b": (1, 0), "c": (0, 0)})
        self.assertEqual(blamed(three, free_machine(three), "none", NONE), ["a", "b"])

    def test_beside_least_share(self):
        told = {"all": 0, "some": 0, "none": 0, "less names": 0, "no key": 0}
        charges = drawn_charges(600)
        for system, machine, mode in drawn(601, 260, most_posts=4, most_requests=4, most=9):
            for charge in (NONE, next(charges)):
                case = (system, machine, mode, charge)
                turns = machine.turns
                found = blamed(*case)
                self.assertIs(type(found), list)
                self.assertEqual(found, slow_blamed(*case))
                self.assertEqual(machine.turns, turns)
                told["none" if not found else "all" if found == list(machine.names) else "some"] += 1
                told["less names"] += len(found) > 0 and machine.names != system.names
                told["no key"] += any(len(turn) == 1 for turn in turns) and len(machine.names) > 1
        self.assertGreater(min(told.values()), 8)

    def test_beside_without(self):
        for mode in MODES:
            for system in (stall(), slope(), rent()):
                for machine in (free_machine(system), Machine(({name: 0 for name in system.names[:2]},))):
                    for charge in (NONE, (1, 2), (3, 1)):
                        most = fraction(least_share(system, machine, mode, charge))
                        right = [
                            name for name in machine.names
                            if fraction(least_share(system, without(machine, name), mode, charge)) < most
                        ]
                        self.assertEqual(blamed(system, machine, mode, charge), right)

    def test_a_state_that_would_have_no_name(self):
        with self.assertRaises(BadMachine):
            without(line(), "day")
        for mode in MODES:
            self.assertNotIn("day", blamed(rent(), line(), mode, NONE))
        machine = Machine(({"over": 0, "day": 1}, {"day": 0, "over": 1}, {"day": 2}))
        # The state 2 never comes, and still its only name cannot be left out.
        self.assertEqual(blamed(rent(), machine, "none", NONE), ["over"])

    def test_no_lesser_share_is_kept_by_a_slow_way_either(self):
        for name in blamed(rent(), free_machine(rent()), "none", NONE):
            lesser = without(free_machine(rent()), name)
            self.assertIsNotNone(slow_numbers(rent(), lesser, "none", (149, 100), NONE))
        self.assertIsNone(slow_numbers(rent(), free_machine(rent()), "none", (149, 100), NONE))

    def test_new_lists(self):
        case = (rent(), free_machine(rent()), "none", NONE)
        blamed(*case).clear()
        self.assertEqual(blamed(*case), ["day", "over"])
        self.assertIsNot(blamed(*case), blamed(*case))

    def test_the_order_of_keys_means_nothing(self):
        chance = random.Random(602)
        for system, machine, mode in drawn(603, 30, most_requests=4):
            requests = list(system.requests.items())
            chance.shuffle(requests)
            other_system = System(system.moves, dict(requests))
            other_machine = Machine(tuple(dict(reversed(list(turn.items()))) for turn in machine.turns))
            self.assertEqual(blamed(other_system, other_machine, mode, (1, 2)), blamed(system, machine, mode, (1, 2)))


class ErrorsTest(unittest.TestCase):
    def test_errors_in_their_order(self):
        mode, moves, requests = JUST_TOO_MANY[0]
        system = System(moves, requests)
        with self.assertRaises(Unsuited) as caught:
            blamed(rent(), STRANGE, "no", (2, 2))
        self.assertEqual(caught.exception.name, "mist")
        with self.assertRaises(BadMode):
            blamed(system, free_machine(system), "no", (2, 2))
        with self.assertRaises(BadFraction):
            blamed(system, free_machine(system), mode, (2, 2))
        for mode, moves, requests in JUST_TOO_MANY:
            system = System(moves, requests)
            with self.assertRaises(TooMany) as caught:
                blamed(system, free_machine(system), mode, NONE)
            self.assertEqual(caught.exception.most, 1000)

    def test_too_many_where_no_name_can_be_left_out(self):
        mode, moves, requests = JUST_TOO_MANY[1]
        system = System(moves, requests)
        names = system.names
        machine = Machine(({name: 0 for name in names},) + tuple({name: 1} for name in names[:3]))
        with self.assertRaises(TooMany):
            blamed(system, machine, mode, NONE)

    def test_any_object(self):
        for thing in objects() + NO_MODES:
            with self.assertRaises(BadMode):
                blamed(single(), free_machine(single()), thing, NONE)
        for thing in NO_FRACTIONS + [thing for thing in objects() if thing != (1, 1)]:
            with self.assertRaises(BadFraction):
                blamed(rent(), line(), "free", thing)


if __name__ == "__main__":
    unittest.main()
