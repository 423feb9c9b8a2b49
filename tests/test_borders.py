import functools
import random
import unittest
from fractions import Fraction

from helpers import (
    detour, fraction, is_plain_fraction, line, made_machine, made_system, pages, pair, rent, renting_by_hand, single,
    slope, stall, walked,
)
from hintslie.borders import border
from hintslie.errors import TooMany, Unsuited
from hintslie.machines import Machine, free_machine
from hintslie.shares import least_charge, least_share
from hintslie.systems import System
from test_shares import NONE
from test_views import JUST_TOO_MANY, STRANGE

LITTLE = Fraction(1, 10 ** 8)


def share_at(piece, charge):
    """The share that a piece tells at a charge."""
    begun, share, fall = map(fraction, piece)
    return share - fall * (charge - begun)


def told_by(pieces, charge):
    """The share that the pieces tell at a charge."""
    return share_at([piece for piece in pieces if fraction(piece[0]) <= charge][-1], charge)


def charges_to_try(pieces):
    """Charges at the pieces, around them, between them, and far behind the last one."""
    begun = [fraction(piece[0]) for piece in pieces]
    found = begun + [charge + LITTLE for charge in begun] + [charge - LITTLE for charge in begun[1:]]
    for one, other in zip(begun, begun[1:]):
        found += [(one + other) / 2, (5 * one + other) / 6, (one + 8 * other) / 9]
    return found + [begun[-1] + 1, begun[-1] + 99, Fraction(10 ** 20)]


@functools.cache
def cases():
    """Systems and machines of a few views with their borders, most of them of several pieces."""
    chance = random.Random(150)
    found = [(system, free_machine(system)) for system in (rent(), pages(), detour(), single(), stall(), slope())]
    found += [(rent(), line()), (stall(), Machine(({"a": 1, "b": 0}, {"c": 0, "b": 1})))]
    while len(found) < 60:
        system = made_system(chance, chance.randint(2, 3), chance.randint(2, 3), 5)
        machine = made_machine(chance, system) if chance.random() < 0.4 else free_machine(system)
        if len(walked(system, machine, "free", 45)) <= 45:
            if least_share(system, machine, "none", NONE) != least_share(system, machine, "true", NONE):
                found.append((system, machine))
    return [(system, machine, border(system, machine)) for system, machine in found]


class BorderTest(unittest.TestCase):
    def test_known(self):
        self.assertEqual(border(pages(), free_machine(pages())), [((0, 1), (1, 1), (0, 1))])
        self.assertEqual(border(renting_by_hand(1), free_machine(rent())), [((0, 1), (1, 1), (0, 1))])
        self.assertEqual(border(rent(), free_machine(rent())), [
            ((0, 1), (3, 2), (0, 1)), ((1, 2), (3, 2), (1, 1)), ((1, 1), (1, 1), (0, 1)),
        ])
        self.assertEqual(border(renting_by_hand(4), free_machine(rent())), [
            ((0, 1), (7, 4), (0, 1)), ((3, 4), (7, 4), (1, 3)), ((3, 2), (3, 2), (0, 1)),
        ])
        self.assertEqual(border(stall(), free_machine(stall())), [
            ((0, 1), (17, 9), (0, 1)), ((17, 27), (17, 9), (3, 17)), ((17, 19), (35, 19), (2, 5)),
            ((17, 14), (12, 7), (4, 17)), ((17, 13), (22, 13), (3, 16)), ((7, 3), (3, 2), (1, 4)),
            ((8, 3), (17, 12), (1, 8)), ((14, 5), (7, 5), (1, 3)), ((23, 8), (11, 8), (0, 1)),
            ((49, 16), (11, 8), (2, 13)), ((10, 3), (4, 3), (0, 1)),
        ])
        self.assertEqual(border(slope(), free_machine(slope())), [
            ((0, 1), (5, 4), (1, 24)), ((10, 7), (25, 21), (1, 3)), ((25, 17), (20, 17), (1, 20)),
            ((5, 3), (7, 6), (0, 1)), ((5, 2), (7, 6), (1, 15)), ((11, 4), (23, 20), (0, 1)),
        ])

    def test_form(self):
        for system, machine, pieces in cases():
            self.assertIs(type(pieces), list)
            for piece in pieces:
                self.assertIs(type(piece), tuple)
                self.assertEqual(len(piece), 3)
                self.assertTrue(all(is_plain_fraction(told) for told in piece))
            begun = [fraction(piece[0]) for piece in pieces]
            self.assertEqual(begun, sorted(set(begun)))

    def test_the_least_share_is_what_the_pieces_tell(self):
        many = []
        for system, machine, pieces in cases():
            many.append(len(pieces))
            for charge in charges_to_try(pieces):
                share = least_share(system, machine, "free", pair(charge))
                self.assertEqual(fraction(share), told_by(pieces, charge), (pieces, charge))
        self.assertGreater(len([number for number in many if number > 2]), 30)
        self.assertGreater(max(many), 9)

    def test_charges_of_all_kinds(self):
        chance = random.Random(151)
        for system, machine, pieces in cases()[::3]:
            for _ in range(12):
                charge = Fraction(chance.randint(0, 99), chance.randint(1, 99))
                share = least_share(system, machine, "free", pair(charge))
                self.assertEqual(fraction(share), told_by(pieces, charge))

    def test_as_few_pieces_as_can_be(self):
        for system, machine, pieces in cases():
            for one, other in zip(pieces, pieces[1:]):
                begun = fraction(other[0])
                self.assertFalse(one[2] == other[2] and share_at(one, begun) == fraction(other[1]))
                # It may drop from one piece to the next one, but never grow.
                self.assertGreaterEqual(share_at(one, begun), fraction(other[1]))

    def test_first_and_last_piece(self):
        for system, machine, pieces in cases():
            self.assertEqual(pieces[0][0], (0, 1))
            self.assertEqual(pieces[0][1], least_share(system, machine, "none", NONE))
            true = least_share(system, machine, "true", NONE)
            self.assertEqual(pieces[-1], (least_charge(system, machine, true), true, (0, 1)))

    def test_the_order_of_keys_means_nothing(self):
        other_rent = System(((0, 2), (0, 0)), {"over": (0, None), "day": (1, 0)})
        other_line = Machine(({"over": 1, "day": 0}, {"day": 2}, {"over": 0, "day": 2}))
        self.assertEqual(border(other_rent, other_line), border(rent(), line()))

    def test_what_was_returned_may_be_changed(self):
        found = border(stall(), free_machine(stall()))
        first = list(found)
        found.clear()
        self.assertEqual(border(stall(), free_machine(stall())), first)

    def test_some_hundred_views(self):
        moves = ((0, 3, 4, 3), (2, 0, 3, 4), (4, 1, 0, 3), (3, 4, 4, 0))
        system = System(moves, {"a": (0, 0, 1, 0), "b": (None, 4, None, 3), "c": (None, 2, 0, 1)})
        machine = free_machine(system)
        self.assertEqual(len(walked(system, machine, "free")), 340)
        pieces = border(system, machine)
        self.assertEqual(len(pieces), 13)
        for charge in charges_to_try(pieces)[::6]:
            share = least_share(system, machine, "free", pair(charge))
            self.assertEqual(fraction(share), told_by(pieces, charge))


class ErrorsTest(unittest.TestCase):
    def test_unsuited(self):
        with self.assertRaises(Unsuited) as caught:
            border(rent(), STRANGE)
        self.assertEqual(caught.exception.name, "mist")

    def test_too_many(self):
        for mode, moves, requests in JUST_TOO_MANY:
            system = System(moves, requests)
            with self.assertRaises(TooMany) as caught:
                border(system, free_machine(system))
            self.assertEqual(caught.exception.most, 1000)


if __name__ == "__main__":
    unittest.main()
