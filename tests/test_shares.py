import random
import unittest
from fractions import Fraction

from helpers import (
    MODES, detour, fraction, is_plain_fraction, line, made, made_machine, made_system, objects, pages, pair, rent,
    renting_by_hand, single, slope, slow_numbers, stall, walked,
)
from hintslie.errors import BadFraction, BadMode, TooMany, Unsuited
from hintslie.machines import Machine, free_machine
from hintslie.shares import least_charge, least_share
from hintslie.systems import System
from hintslie.tables import kept, least_sum
from test_tables import CHARGES, NO_FRACTIONS, coprime
from test_views import JUST_LET, JUST_TOO_MANY, NO_MODES, STRANGE

NONE = (0, 1)
LITTLE = Fraction(1, 10 ** 9)


def drawn(seed, many, views=60, **more):
    """Made triples of which at most so many views come."""
    return [one for one in made(seed, many, **more) if len(walked(*one, views)) <= views]


def drawn_charges(seed):
    chance = random.Random(seed)
    while True:
        top, bottom = chance.randint(0, 99), chance.randint(1, 99)
        if coprime(top, bottom):
            yield top, bottom


def multiplied(system, many):
    moves = tuple(tuple(many * price for price in prices) for prices in system.moves)
    requests = {
        name: tuple(None if price is None else many * price for price in prices)
        for name, prices in system.requests.items()
    }
    return System(moves, requests)


def with_more_turns(chance, system, machine):
    """A machine that has all states and turns of this one, and more."""
    turns = [dict(turn) for turn in machine.turns]
    if len(turns) < 4:
        turns.append({chance.choice(system.names): chance.randrange(len(turns) + 1)})
    for turn in turns:
        for name in system.names:
            if name not in turn and chance.random() < 0.5:
                turn[name] = chance.randrange(len(turns))
    return Machine(tuple(turns))


class LeastShareTest(unittest.TestCase):
    def test_known(self):
        self.assertEqual(least_share(rent(), free_machine(rent()), "none", NONE), (3, 2))
        for price in range(1, 10):
            system = renting_by_hand(price)
            known = {"none": pair(Fraction(2 * price - 1, price)), "true": pair(Fraction(2 * price - 2, price))}
            if price == 1:
                known["true"] = (1, 1)
            for mode, share in known.items():
                self.assertEqual(least_share(system, free_machine(system), mode, NONE), share)

    def test_known_rooms(self):
        pair_of_rooms = System(((0, 1), (1, 0)), {"a": (0, None), "b": (None, 0)})
        posts = [(0, 1), (0, 2), (1, 2)]
        moves = tuple(tuple(len(set(new) - set(old)) for new in posts) for old in posts)
        two_of_three = System(moves, {
            "abc"[thing]: tuple(0 if thing in post else None for post in posts) for thing in range(3)
        })
        for mode in ("none", "true"):
            for charge in CHARGES:
                self.assertEqual(least_share(pair_of_rooms, free_machine(pair_of_rooms), mode, charge), (1, 1))
                self.assertEqual(least_share(pages(), free_machine(pages()), mode, charge), (1, 1))
                self.assertEqual(least_share(two_of_three, free_machine(two_of_three), mode, charge), (2, 1))

    def test_share_0(self):
        idle = System(((0, 1), (1, 0)), {"a": (0, 3), "b": (0, 0)})
        for mode in MODES:
            for charge in CHARGES:
                self.assertEqual(least_share(idle, free_machine(idle), mode, charge), NONE)
                self.assertEqual(least_share(rent(), Machine(({"over": 0},)), mode, charge), NONE)
                self.assertEqual(least_share(rent(), Machine(({"day": 1}, {"over": 1})), mode, charge), NONE)

    def test_kept_and_no_lesser_share_is(self):
        charges = drawn_charges(60)
        above = broken = 0
        for system, machine, mode in drawn(61, 250, 150, most_posts=4, most_requests=4, most=9):
            for charge in (NONE, next(charges)):
                share = least_share(system, machine, mode, charge)
                self.assertTrue(is_plain_fraction(share))
                self.assertIs(kept(system, machine, mode, share, charge), True)
                least_sum(system, machine, mode, share, charge)
                if share != NONE:
                    less = pair(fraction(share) - LITTLE)
                    self.assertIs(kept(system, machine, mode, less, charge), False)
                    above += share[0] > share[1]
                    broken += charge[1] > 1 and share[1] > 3
        self.assertGreater(above, 50)
        self.assertGreater(broken, 10)

    def test_beside_round_after_round(self):
        charges = drawn_charges(62)
        near = Fraction(1, 40)
        for system, machine, mode in drawn(63, 120, 25):
            charge = next(charges)
            share = least_share(system, machine, mode, charge)
            self.assertIsNotNone(slow_numbers(system, machine, mode, share, charge))
            if fraction(share) > near:
                less = pair(fraction(share) - near)
                self.assertIsNone(slow_numbers(system, machine, mode, less, charge))

    def test_systems_of_the_tests(self):
        for system in (stall(), slope(), detour()):
            for mode in MODES:
                share = least_share(system, free_machine(system), mode, (1, 3))
                self.assertIs(kept(system, free_machine(system), mode, share, (1, 3)), True)
                less = pair(fraction(share) - LITTLE)
                self.assertIs(kept(system, free_machine(system), mode, less, (1, 3)), False)
        self.assertEqual(least_share(stall(), free_machine(stall()), "free", NONE), (17, 9))
        self.assertEqual(least_share(stall(), free_machine(stall()), "true", NONE), (4, 3))
        self.assertEqual(least_share(single(), free_machine(single()), "free", (9, 1)), (1, 1))

    def test_the_order_of_keys_means_nothing(self):
        other_rent = System(((0, 2), (0, 0)), {"over": (0, None), "day": (1, 0)})
        other_line = Machine(({"over": 1, "day": 0}, {"day": 2}, {"over": 0, "day": 2}))
        for mode in MODES:
            for charge in CHARGES:
                told = least_share(rent(), line(), mode, charge)
                self.assertEqual(least_share(other_rent, other_line, mode, charge), told)

    def test_many_views(self):
        for mode, moves, requests in JUST_LET:
            system = System(moves, requests)
            share = least_share(system, free_machine(system), mode, (1, 3))
            self.assertIs(kept(system, free_machine(system), mode, share, (1, 3)), True)
            less = pair(fraction(share) - LITTLE)
            self.assertIs(kept(system, free_machine(system), mode, less, (1, 3)), False)


class FactsTest(unittest.TestCase):
    def test_charge_0_is_mode_none(self):
        for system, machine, _ in drawn(64, 100):
            share = least_share(system, machine, "none", NONE)
            self.assertEqual(least_share(system, machine, "free", NONE), share)
            for more in (0, Fraction(1, 7), 2):
                told = pair(fraction(share) + more)
                self.assertEqual(
                    least_sum(system, machine, "free", told, NONE), least_sum(system, machine, "none", told, NONE)
                )

    def test_falls_to_that_of_the_mode_true(self):
        charges = sorted([(0, 1), (1, 99), (1, 7), (1, 3), (2, 3), (1, 1), (5, 3), (5, 2), (4, 1), (99, 1)],
                         key=fraction)
        fallen = 0
        for system, machine, _ in drawn(65, 150):
            shares = [least_share(system, machine, "free", charge) for charge in charges]
            true = least_share(system, machine, "true", NONE)
            for more, less in zip(shares, shares[1:]):
                self.assertGreaterEqual(fraction(more), fraction(less))
            self.assertGreaterEqual(fraction(shares[-1]), fraction(true))
            self.assertEqual(shares[-1], true)
            fallen += shares[0] != true
        self.assertGreater(fallen, 10)

    def test_the_charge_means_nothing_but_in_the_mode_free(self):
        for system, machine, _ in drawn(66, 60):
            for mode in ("none", "true"):
                share = least_share(system, machine, mode, NONE)
                for charge in ((1, 3), (99, 1), (98, 99)):
                    self.assertEqual(least_share(system, machine, mode, charge), share)

    def test_more_rows_cost_no_less(self):
        chance = random.Random(67)
        more = 0
        for _ in range(150):
            system = made_system(chance, chance.randint(1, 3), chance.randint(1, 3), 4)
            machine = made_machine(chance, system)
            other = with_more_turns(chance, system, machine)
            mode = chance.choice(MODES)
            if len(walked(system, other, mode, 80)) > 80:
                continue
            share, broader = [least_share(system, one, mode, (2, 3)) for one in (machine, other)]
            self.assertGreaterEqual(fraction(broader), fraction(share))
            more += broader != share
        self.assertGreater(more, 10)

    def test_all_prices_multiplied(self):
        for system, machine, mode in drawn(68, 120, most=3):
            for many in (2, 3):
                self.assertEqual(
                    least_share(multiplied(system, many), machine, mode, NONE),
                    least_share(system, machine, mode, NONE),
                )


class LeastChargeTest(unittest.TestCase):
    def test_known(self):
        machine = free_machine(rent())
        self.assertEqual(least_charge(rent(), machine, (3, 2)), (0, 1))
        self.assertEqual(least_charge(rent(), machine, (99, 1)), (0, 1))
        self.assertEqual(least_charge(rent(), machine, (1, 1)), (1, 1))
        self.assertEqual(least_charge(rent(), machine, (5, 4)), (3, 4))
        self.assertIsNone(least_charge(rent(), machine, (98, 99)))
        self.assertIsNone(least_charge(rent(), machine, (0, 1)))
        self.assertEqual(least_charge(rent(), Machine(({"over": 0},)), (0, 1)), (0, 1))

    def test_kept_and_no_lesser_charge_is(self):
        told = broken = nothing = 0
        for system, machine, _ in drawn(70, 200) + [(stall(), free_machine(stall()), "free")] * 3:
            true = fraction(least_share(system, machine, "true", NONE))
            none = fraction(least_share(system, machine, "none", NONE))
            for share in {true, none, (true + none) / 2, (true + 4 * none) / 5, none + 1, max(0, true - LITTLE)}:
                charge = least_charge(system, machine, pair(share))
                self.assertIs(charge is None, share < true)
                if charge is None:
                    nothing += 1
                    continue
                self.assertTrue(is_plain_fraction(charge))
                self.assertIs(kept(system, machine, "free", pair(share), charge), True)
                if charge != NONE:
                    less = pair(fraction(charge) - LITTLE)
                    self.assertIs(kept(system, machine, "free", pair(share), less), False)
                    told += 1
                    broken += charge[1] > 1
                self.assertEqual(charge == NONE, share >= none)
        self.assertGreater(told, 30)
        self.assertGreater(broken, 10)
        self.assertGreater(nothing, 30)

    def test_tops_and_bottoms_up_to_99(self):
        machine = free_machine(stall())
        for share in ((4, 3), (97, 71), (99, 70), (98, 59), (89, 47), (17, 9), (99, 1), (1, 99), (91, 69), (65, 49)):
            charge = least_charge(stall(), machine, share)
            if 3 * share[0] < 4 * share[1]:
                self.assertIsNone(charge)
                continue
            self.assertIs(kept(stall(), machine, "free", share, charge), True)
            if charge != NONE:
                less = pair(fraction(charge) - LITTLE)
                self.assertIs(kept(stall(), machine, "free", share, less), False)

    def test_the_order_of_keys_means_nothing(self):
        other_rent = System(((0, 2), (0, 0)), {"over": (0, None), "day": (1, 0)})
        other_line = Machine(({"over": 1, "day": 0}, {"day": 2}, {"over": 0, "day": 2}))
        for share in ((1, 1), (6, 5), (4, 3), (3, 2)):
            self.assertEqual(least_charge(other_rent, other_line, share), least_charge(rent(), line(), share))


class ErrorsTest(unittest.TestCase):
    def test_unsuited(self):
        for call in (
            lambda: least_share(rent(), STRANGE, "no", None), lambda: least_share(rent(), STRANGE, "none", (1, 1)),
            lambda: least_charge(rent(), STRANGE, None), lambda: least_charge(rent(), STRANGE, (2, 1)),
        ):
            with self.assertRaises(Unsuited) as caught:
                call()
            self.assertEqual(caught.exception.name, "mist")

    def test_bad_mode(self):
        for mode in NO_MODES + objects():
            for charge in ((1, 1), (2, 2), None):
                with self.assertRaises(BadMode):
                    least_share(rent(), line(), mode, charge)

    def test_bad_fraction(self):
        for thing in NO_FRACTIONS + [thing for thing in objects() if thing != (1, 1)]:
            for mode in MODES:
                with self.assertRaises(BadFraction):
                    least_share(rent(), line(), mode, thing)
            with self.assertRaises(BadFraction):
                least_charge(rent(), line(), thing)

    def test_too_many_behind_all_others(self):
        for mode, moves, requests in JUST_TOO_MANY:
            system = System(moves, requests)
            machine = free_machine(system)
            for call, arguments in ((least_share, (mode, (1, 2))), (least_charge, ((1, 2),))):
                with self.assertRaises(TooMany) as caught:
                    call(system, machine, *arguments)
                self.assertEqual(caught.exception.most, 1000)
            with self.assertRaises(BadMode):
                least_share(system, machine, "no", (1, 2))
            with self.assertRaises(BadFraction):
                least_share(system, machine, mode, (2, 4))
            with self.assertRaises(BadFraction):
                least_charge(system, machine, (2, 4))


if __name__ == "__main__":
    unittest.main()
