import random
import unittest
from itertools import permutations

from helpers import (
    GREAT, MODES, detour, fraction, line, made, made_machine, made_system, objects, pages, rent, replaced, single,
    slow_way, stall, walked,
)
from hintslie.builds import renting, rooms
from hintslie.changes import beside, folded, times, turned, without
from hintslie.errors import BadMachine, BadNumber, BadPosts, NoRequest, TooLarge
from hintslie.machines import Machine, free_machine
from hintslie.shares import least_share
from hintslie.systems import System
from test_shares import NONE, drawn, drawn_charges


def few(system, machine, mode, most=60):
    """Whether at most so many views come."""
    return len(walked(system, machine, mode, most)) <= most


def told(system):
    return system.moves, system.requests


class BesideTest(unittest.TestCase):
    def test_known(self):
        one = System(((0, 1), (2, 0)), {"x": (3, None)})
        other = System(((0, 4), (5, 0)), {"x": (6, 7), "y": (None, 8)})
        both = beside(one, other)
        self.assertIs(type(both), System)
        self.assertEqual(both.moves, ((0, 4, 1, 5), (5, 0, 6, 1), (2, 6, 0, 4), (7, 2, 5, 0)))
        self.assertEqual(both.requests, {
            "ax": (3, 3, None, None), "bx": (6, 7, 6, 7), "by": (None, 8, None, 8),
        })

    def test_moves_and_requests(self):
        chance = random.Random(500)
        for _ in range(60):
            posts = chance.choice([(1, 1), (1, 6), (2, 3), (3, 2), (6, 1), (2, 2), (1, 4)])
            one = made_system(chance, posts[0], chance.randint(1, 2), 4)
            other = made_system(chance, posts[1], chance.randint(1, 3), 5)
            before = told(one), told(other)
            both = beside(one, other)
            pairs = [(a, b) for a in range(posts[0]) for b in range(posts[1])]
            self.assertEqual(both.moves, tuple(
                tuple(one.moves[a][c] + other.moves[b][d] for c, d in pairs) for a, b in pairs
            ))
            requests = {"a" + name: tuple(one.requests[name][a] for a, _ in pairs) for name in one.names}
            requests.update({"b" + name: tuple(other.requests[name][b] for _, b in pairs) for name in other.names})
            self.assertEqual(both.requests, requests)
            self.assertEqual((told(one), told(other)), before)

    def test_fact(self):
        chance = random.Random(501)
        unlike = 0
        for _ in range(60):
            one = made_system(chance, chance.randint(1, 2), chance.randint(1, 2), 3)
            other = made_system(chance, chance.randint(1, 2), chance.randint(1, 2), 3)
            both = beside(one, other)
            if not few(both, free_machine(both), "none", 120):
                continue
            shares = [least_share(system, free_machine(system), "none", NONE) for system in (one, other, both)]
            self.assertEqual(fraction(shares[2]), max(fraction(shares[0]), fraction(shares[1])))
            unlike += shares[0] != shares[1]
        self.assertGreater(unlike, 5)
        both = beside(renting(2), rooms(1, 2))
        self.assertEqual(least_share(both, free_machine(both), "none", NONE), (3, 2))

    def test_too_many_posts(self):
        wide = System(tuple((0,) * 6 for _ in range(6)), {"x": (0,) * 6})
        three = System(tuple((0,) * 3 for _ in range(3)), {"x": (0,) * 3})
        self.assertEqual(beside(wide, single()).posts, 6)
        self.assertEqual(beside(rent(), three).posts, 6)
        for one, other in ((wide, rent()), (rent(), wide), (three, three), (wide, wide)):
            with self.assertRaises(TooLarge):
                beside(one, other)

    def test_steps_above_9(self):
        self.assertEqual(beside(renting(4), renting(5)).moves[0][3], 9)
        for one, other in ((4, 6), (5, 5), (9, 1), (9, 9)):
            with self.assertRaises(TooLarge):
                beside(renting(one), renting(other))
        dear = System(((0,),), {"x": (9,)})
        self.assertEqual(beside(dear, dear).requests, {"ax": (9,), "bx": (9,)})

    def test_long_names(self):
        long = System(((0,),), {"abcdefgh": (0,)})
        near = System(((0,),), {"abcdefg": (0,)})
        self.assertEqual(beside(near, near).names, ("aabcdefg", "babcdefg"))
        for one, other in ((long, near), (near, long), (long, long)):
            with self.assertRaises(TooLarge):
                beside(one, other)

    def test_too_many_requests(self):
        def system(many):
            return System(((0,),), {name: (0,) for name in "abcde"[:many]})

        self.assertEqual(len(beside(system(2), system(3)).names), 5)
        self.assertEqual(len(beside(system(4), system(1)).names), 5)
        for one, other in ((3, 3), (5, 1), (1, 5), (5, 5)):
            with self.assertRaises(TooLarge):
                beside(system(one), system(other))


class FoldedTest(unittest.TestCase):
    def test_known(self):
        moves = ((0, 3, 0, 2), (1, 0, 2, 0), (1, 9, 0, 5), (4, 3, 1, 0))
        # 0 to 2 costs 0, 2 to 0 costs 1: they stay apart. 1 to 3 costs 0, 3 to 1 costs 3: they do as well.
        system = System(moves, {"x": (1, 2, 3, 4)})
        self.assertEqual(folded(system).posts, 4)
        moves = ((0, 3, 0, 2), (1, 0, 2, 5), (0, 9, 0, 5), (4, 3, 1, 0))
        system = System(moves, {"x": (1, 2, 0, 4), "y": (None, None, 5, None), "z": (None, 1, None, 1)})
        self.assertEqual(folded(system), System(((0, 3, 2), (1, 0, 3), (1, 3, 0)), {
            "x": (0, 2, 4), "y": (5, None, None), "z": (None, 1, 1),
        }))

    def test_by_ways_not_by_steps(self):
        moves = ((0, 0, 9), (9, 0, 0), (0, 9, 0))
        system = System(moves, {"x": (None, 4, 6), "y": (3, None, None)})
        self.assertEqual(folded(system), System(((0,),), {"x": (4,), "y": (3,)}))

    def test_moves_and_requests(self):
        chance = random.Random(510)
        fewer = 0
        for _ in range(150):
            system = made_system(chance, chance.randint(1, 6), chance.randint(1, 3), chance.choice((1, 1, 2)))
            before = told(system)
            posts = range(system.posts)
            groups = {}
            for post in posts:
                first = min(
                    other for other in posts
                    if slow_way(system.moves, post, other) == slow_way(system.moves, other, post) == 0
                )
                groups.setdefault(first, []).append(post)
            result = folded(system)
            firsts = sorted(groups)
            self.assertEqual(result.moves, tuple(
                tuple(slow_way(system.moves, a, b) for b in firsts) for a in firsts
            ))
            for name in system.names:
                prices = system.requests[name]
                served = [[prices[post] for post in groups[first] if prices[post] is not None] for first in firsts]
                self.assertEqual(result.requests[name], tuple(min(row) if row else None for row in served))
            self.assertEqual(told(system), before)
            fewer += len(firsts) < system.posts
        self.assertGreater(fewer, 20)

    def test_fact(self):
        charges = drawn_charges(511)
        chance = random.Random(512)
        fewer = 0
        for _ in range(150):
            system = made_system(chance, chance.randint(2, 4), chance.randint(1, 3), 1)
            machine, mode = made_machine(chance, system), chance.choice(MODES)
            if folded(system).posts == system.posts or not few(system, machine, mode):
                continue
            charge = next(charges)
            self.assertEqual(least_share(folded(system), machine, mode, charge),
                             least_share(system, machine, mode, charge))
            fewer += 1
        self.assertGreater(fewer, 20)


class TimesTest(unittest.TestCase):
    def test_known(self):
        self.assertEqual(times(renting(2), 4), System(((0, 8), (0, 0)), {"day": (4, 0), "over": (0, None)}))
        self.assertEqual(times(rent(), 1), rent())
        self.assertEqual(times(pages(), 9).moves[0], (0, 9, 9))

    def test_moves_and_requests(self):
        chance = random.Random(520)
        for most, many in ((1, 9), (2, 4), (3, 3), (4, 2), (9, 1)):
            for _ in range(8):
                system = made_system(chance, chance.randint(1, 6), chance.randint(1, 5), most)
                before = told(system)
                result = times(system, many)
                self.assertEqual(result.moves, tuple(tuple(many * price for price in row) for row in system.moves))
                self.assertEqual(result.requests, {
                    name: tuple(None if price is None else many * price for price in row)
                    for name, row in system.requests.items()
                })
                self.assertEqual(told(system), before)

    def test_too_large(self):
        for system, many in (
            (renting(5), 2), (renting(2), 5), (renting(9), 2), (renting(1), 9), (System(((0,),), {"x": (5,)}), 2),
            (System(((0,),), {"x": (2,), "y": (0,)}), 9),
        ):
            if many * max(system.moves[0]) > 9 or any(many * (row[0] or 0) > 9 for row in system.requests.values()):
                with self.assertRaises(TooLarge):
                    times(system, many)
            else:
                times(system, many)
        with self.assertRaises(TooLarge):
            times(System(((0, 0), (4, 0)), {"x": (None, 1)}), 3)
        with self.assertRaises(TooLarge):
            times(System(((0, 0), (3, 0)), {"x": (None, 4)}), 3)

    def test_bad_number(self):
        for system in (rent(), renting(9)):
            for thing in objects() + [0, 10, -1, True, "2", (2,), GREAT]:
                if type(thing) is not int or not 1 <= thing <= 9:
                    with self.assertRaises(BadNumber):
                        times(system, thing)

    def test_fact(self):
        for system, machine, mode in drawn(521, 100, most=4):
            self.assertEqual(least_share(times(system, 2), machine, mode, NONE),
                             least_share(system, machine, mode, NONE))


class TurnedTest(unittest.TestCase):
    def test_known(self):
        system = detour()
        self.assertEqual(turned(system, (0, 2, 1)), System(((0, 9, 1), (0, 0, 9), (5, 1, 0)), {
            "in": (3, None, 0), "out": (None, 4, None), "up": (2, 2, 2),
        }))
        self.assertEqual(turned(system, (0, 1, 2)), system)
        self.assertEqual(turned(single(), (0,)), single())

    def test_moves_and_requests(self):
        chance = random.Random(530)
        for _ in range(60):
            system = made_system(chance, chance.randint(1, 6), chance.randint(1, 4), 9)
            before = told(system)
            posts = (0,) + tuple(chance.sample(range(1, system.posts), system.posts - 1))
            result = turned(system, posts)
            for k in range(system.posts):
                for j in range(system.posts):
                    self.assertEqual(result.moves[k][j], system.moves[posts[k]][posts[j]])
                for name in system.names:
                    self.assertEqual(result.requests[name][k], system.requests[name][posts[k]])
            self.assertEqual(result.names, system.names)
            self.assertEqual(told(system), before)

    def test_fact(self):
        charges = drawn_charges(531)
        chance = random.Random(532)
        for system, machine, mode in drawn(533, 80, most_posts=4):
            posts = (0,) + tuple(chance.sample(range(1, system.posts), system.posts - 1))
            charge = next(charges)
            self.assertEqual(least_share(turned(system, posts), machine, mode, charge),
                             least_share(system, machine, mode, charge))

    def test_bad_posts(self):
        system = detour()
        for posts in permutations(range(3)):
            if posts[0] != 0:
                with self.assertRaises(BadPosts):
                    turned(system, posts)
        bad = [
            [0, 1, 2], (0, 1), (0, 1, 2, 3), (0, 1, 1), (0, 2, 2), (0, 0, 0), (0, 1, 3), (0, 1, -1), (0, True, 2),
            (False, 1, 2), ("0", 1, 2), (0, 1, None), (0, 1, (2,)), (), {0: 0, 1: 1, 2: 2}, (0, [1], 2),
        ]
        for posts in bad + objects():
            with self.assertRaises(BadPosts):
                turned(system, posts)
        for posts in objects():
            if posts != (0,) or type(posts[0]) is bool:
                with self.assertRaises(BadPosts):
                    turned(single(), posts)


class WithoutTest(unittest.TestCase):
    def test_known(self):
        self.assertEqual(without(free_machine(rent()), "over"), Machine(({"day": 0},)))
        machine = Machine(({"a": 1, "b": 0}, {"b": 1, "c": 0}, {"c": 2}))
        self.assertEqual(without(machine, "a"), Machine(({"b": 0}, {"b": 1, "c": 0}, {"c": 2})))
        self.assertEqual(without(machine, "b"), Machine(({"a": 1}, {"c": 0}, {"c": 2})))
        with self.assertRaises(BadMachine):
            without(machine, "c")

    def test_turns(self):
        chance = random.Random(540)
        outcomes = {BadMachine: 0, NoRequest: 0, None: 0}
        for system, machine, _ in made(541, 80, most_requests=4):
            before = machine.turns
            for name in "abcde":
                turns = tuple({key: turn[key] for key in turn if key != name} for turn in before)
                if turns == before:
                    kind = NoRequest
                else:
                    kind = None if all(turns) else BadMachine
                outcomes[kind] += 1
                if kind is None:
                    result = without(machine, name)
                    self.assertIs(type(result), Machine)
                    self.assertEqual(result.turns, turns)
                    self.assertEqual(result.states, machine.states)
                else:
                    with self.assertRaises(kind) as caught:
                        without(machine, name)
                    if kind is NoRequest:
                        self.assertEqual(caught.exception.name, name)
                self.assertEqual(machine.turns, before)
        self.assertGreater(min(outcomes.values()), 20)

    def test_no_request(self):
        for thing in objects() + ["Day", "da", "days", ["day"], ("day",), b"over", "none"]:
            if thing != "day":
                with self.assertRaises(NoRequest) as caught:
                    without(line(), thing)
                self.assertIs(caught.exception.name, thing)

    def test_fact(self):
        for system, machine, mode in drawn(542, 60, most_requests=3):
            for name in machine.names:
                if len(machine.names) > 1 and all(set(turn) != {name} for turn in machine.turns):
                    less = fraction(least_share(system, without(machine, name), mode, NONE))
                    self.assertLessEqual(less, fraction(least_share(system, machine, mode, NONE)))


class StayTest(unittest.TestCase):
    def test_what_was_returned_may_be_changed(self):
        system = stall()
        for result in (folded(system), times(system, 1), turned(system, (0, 1)), beside(single(), single())):
            result.requests.clear()
            self.assertGreater(len(result.requests), 0)
        machine = without(free_machine(system), "a")
        machine.turns[0].clear()
        self.assertEqual(machine, Machine(({"b": 0, "c": 0},)))
        self.assertEqual(told(system), told(stall()))
        self.assertEqual(replaced((0, 1), 0, 5), (5, 1))


if __name__ == "__main__":
    unittest.main()
