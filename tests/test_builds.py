import random
import unittest
from fractions import Fraction
from itertools import combinations, permutations

from helpers import GREAT, MODES, objects, pair, rent, slow_way
from hintslie.builds import renting, rooms, rows, walkers
from hintslie.errors import BadNumber, BadSystem, TooLarge
from hintslie.machines import free_machine
from hintslie.shares import least_share
from hintslie.systems import System
from test_shares import NONE

NO_NUMBERS = [True, False, None, "1", (1,), [1], 0, -1, GREAT, -GREAT]


def is_plain_system(system):
    """Whether it is a system of tuples of plain integers, as 1.1 tells."""
    return type(system) is System and System(system.moves, system.requests) == system


class RentingTest(unittest.TestCase):
    def test_moves_and_requests(self):
        self.assertEqual(renting(2), rent())
        for price in range(1, 10):
            system = renting(price)
            self.assertTrue(is_plain_system(system))
            self.assertEqual(system.moves, ((0, price), (0, 0)))
            self.assertEqual(system.requests, {"day": (1, 0), "over": (0, None)})

    def test_facts(self):
        for price in range(1, 10):
            system = renting(price)
            machine = free_machine(system)
            self.assertEqual(least_share(system, machine, "none", NONE), pair(Fraction(2 * price - 1, price)))
            true = Fraction(2 * price - 2, price) if price > 1 else 1
            self.assertEqual(least_share(system, machine, "true", NONE), pair(true))

    def test_bad_number(self):
        for thing in objects() + NO_NUMBERS + [10]:
            if type(thing) is not int or not 1 <= thing <= 9:
                with self.assertRaises(BadNumber):
                    renting(thing)


class RoomsTest(unittest.TestCase):
    LET = [(held, things) for things in range(1, 6) for held in range(1, things + 1)
           if len(list(combinations(range(things), held))) <= 6]

    def test_moves_and_requests(self):
        self.assertEqual(self.LET, [
            (1, 1), (1, 2), (2, 2), (1, 3), (2, 3), (3, 3), (1, 4), (2, 4), (3, 4), (4, 4), (1, 5), (4, 5), (5, 5),
        ])
        for held, things in self.LET:
            system = rooms(held, things)
            self.assertTrue(is_plain_system(system))
            posts = sorted(post for post in combinations(range(things), held))
            self.assertEqual(system.moves, tuple(
                tuple(len(set(new) - set(old)) for new in posts) for old in posts
            ))
            self.assertEqual(system.requests, {
                "abcde"[thing]: tuple(0 if thing in post else None for post in posts) for thing in range(things)
            })

    def test_known(self):
        system = rooms(2, 3)
        self.assertEqual(system.moves, ((0, 1, 1), (1, 0, 1), (1, 1, 0)))
        self.assertEqual(system.requests, {"a": (0, 0, None), "b": (0, None, 0), "c": (None, 0, 0)})

    def test_fact(self):
        self.assertEqual(least_share(rooms(1, 2), free_machine(rooms(1, 2)), "none", NONE), (1, 1))
        for held, things in self.LET:
            if held < things:
                for mode in ("none", "true"):
                    system = rooms(held, things)
                    self.assertEqual(least_share(system, free_machine(system), mode, NONE), (held, 1))

    def test_bad_number(self):
        for held in range(-1, 9):
            for things in range(-1, 9):
                if (held, things) not in self.LET:
                    with self.assertRaises(BadNumber):
                        rooms(held, things)
        for thing in objects() + NO_NUMBERS:
            if type(thing) is not int or thing not in range(1, 6):
                with self.assertRaises(BadNumber):
                    rooms(1, thing)
            if type(thing) is not int or thing not in (1, 2):
                with self.assertRaises(BadNumber):
                    rooms(thing, 2)


class RowsTest(unittest.TestCase):
    def test_moves_and_requests(self):
        for things in (1, 2, 3):
            system = rows(things)
            self.assertTrue(is_plain_system(system))
            posts = sorted(permutations(range(things)))
            self.assertEqual(system.moves, tuple(
                tuple(
                    sum((old.index(a) < old.index(b)) != (new.index(a) < new.index(b))
                        for a, b in combinations(range(things), 2))
                    for new in posts
                )
                for old in posts
            ))
            self.assertEqual(system.requests, {
                "abc"[thing]: tuple(post.index(thing) for post in posts) for thing in range(things)
            })

    def test_known(self):
        self.assertEqual(rows(2), System(((0, 1), (1, 0)), {"a": (0, 1), "b": (1, 0)}))
        self.assertEqual(rows(3).moves[1], (1, 0, 2, 3, 1, 2))
        self.assertEqual(rows(3).requests["b"], (1, 2, 0, 0, 2, 1))

    def test_bad_number(self):
        for thing in objects() + NO_NUMBERS + [4, 5, 6]:
            if type(thing) is not int or thing not in (1, 2, 3):
                with self.assertRaises(BadNumber):
                    rows(thing)


def made_ways(chance, places, most):
    ways = [[0] * places for _ in range(places)]
    for a, b in combinations(range(places), 2):
        ways[a][b] = ways[b][a] = chance.randint(0, most)
    return tuple(tuple(row) for row in ways)


class WalkersTest(unittest.TestCase):
    def test_moves_and_requests(self):
        chance = random.Random(400)
        for places, many in ((2, 1), (3, 1), (4, 1), (5, 1), (2, 2), (3, 2), (4, 2)):
            for _ in range(12):
                ways = made_ways(chance, places, chance.choice((2, 4)))
                system = walkers(ways, many)
                self.assertTrue(is_plain_system(system))
                posts = sorted(combinations(range(places), many))
                self.assertEqual(system.moves, tuple(
                    tuple(
                        min(sum(slow_way(ways, a, b) for a, b in zip(old, order)) for order in permutations(new))
                        for new in posts
                    )
                    for old in posts
                ))
                self.assertEqual(system.requests, {
                    "abcde"[place]: tuple(0 if place in post else None for post in posts) for place in range(places)
                })

    def test_known(self):
        ways = ((0, 1, 9), (1, 0, 1), (9, 1, 0))
        self.assertEqual(walkers(ways, 1).moves, ((0, 1, 2), (1, 0, 1), (2, 1, 0)))
        self.assertEqual(walkers(ways, 2).moves, ((0, 1, 2), (1, 0, 1), (2, 1, 0)))
        self.assertEqual(walkers(ways, 2).requests, {"a": (0, 0, None), "b": (0, None, 0), "c": (None, 0, 0)})
        everywhere = walkers(((0, 5), (5, 0)), 2)
        self.assertEqual(everywhere, System(((0,),), {"a": (0,), "b": (0,)}))

    def test_the_walkers_may_change_over(self):
        # From (0, 1) to (1, 2): one walker goes on from 0 to 2 or both go one place; no more than 2 either way.
        ways = ((0, 1, 5, 5), (1, 0, 1, 5), (5, 1, 0, 1), (5, 5, 1, 0))
        self.assertEqual(walkers(ways, 2).moves[0], (0, 1, 2, 2, 3, 4))

    def test_two_on_a_line_keep_2(self):
        for places in (3, 4):
            ways = tuple(tuple(abs(a - b) for b in range(places)) for a in range(places))
            system = walkers(ways, 2)
            self.assertEqual(least_share(system, free_machine(system), "none", NONE), (2, 1))

    def test_bad_system(self):
        good = ((0, 1, 2), (1, 0, 1), (2, 1, 0))
        walkers(good, 1)
        bad = [
            ((0, 1, 2), (1, 0, 1), (3, 1, 0)), ((0, 1, 2), (1, 0, 1), (2, 1, 1)), ((0, 1), (1, 0), (2, 1)), (),
            ((0,),), [(0, 1), (1, 0)], ([0, 1], [1, 0]), ((0, 10), (10, 0)), ((0, -1), (-1, 0)), ((0, True), (True, 0)),
            ((False, 1), (1, 0)), ((0, None), (None, 0)), ((0, 1), (2, 0)), tuple((0,) * 6 for _ in range(6)),
        ]
        for ways in bad + objects():
            for many in (1, 2, 3, None):
                with self.assertRaises(BadSystem) as caught:
                    walkers(ways, many)
                self.assertEqual(caught.exception.part, "moves")

    def test_bad_number(self):
        ways = ((0, 1, 2), (1, 0, 1), (2, 1, 0))
        for thing in objects() + NO_NUMBERS + [3]:
            if type(thing) is not int or thing not in (1, 2):
                with self.assertRaises(BadNumber):
                    walkers(ways, thing)
        five = tuple(tuple(0 if a == b else 9 for b in range(5)) for a in range(5))
        self.assertEqual(walkers(five, 1).posts, 5)
        with self.assertRaises(BadNumber):
            walkers(five, 2)

    def test_too_large(self):
        # From (0, 1) to (2, 3) both go all the way.
        def square(far):
            return ((0, 1, far, far), (1, 0, far, far), (far, far, 0, 1), (far, far, 1, 0))

        self.assertEqual(walkers(square(4), 2).moves[0][5], 8)
        for far in (5, 9):
            with self.assertRaises(TooLarge):
                walkers(square(far), 2)
            self.assertEqual(walkers(square(far), 1).moves[0][2], far)
        ways = ((0, 1, 4, 5), (1, 0, 5, 5), (4, 5, 0, 1), (5, 5, 1, 0))
        self.assertEqual(walkers(ways, 2).moves[0][5], 9)


class FreshTest(unittest.TestCase):
    def test_equal_arguments_give_equal_systems(self):
        for call, arguments in ((renting, (3,)), (rooms, (2, 4)), (rows, (3,)), (walkers, (((0, 1), (1, 0)), 1))):
            system = call(*arguments)
            system.requests.clear()
            self.assertEqual(call(*arguments), system)
            for mode in MODES:
                self.assertEqual(least_share(system, free_machine(system), mode, NONE),
                                 least_share(call(*arguments), free_machine(system), mode, NONE))


if __name__ == "__main__":
    unittest.main()
