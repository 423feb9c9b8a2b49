import random
import unittest
from itertools import product

from helpers import (
    GREAT, MODES, detour, fraction, line, made_machine, made_system, number_spoils, objects, rent, single, stall,
)
from hintslie.edits import both, with_request, with_step, without_request
from hintslie.errors import BadMachine, BadNumber, BadSystem, NoPost, NoRequest, TooLarge
from hintslie.machines import Machine, free_machine
from hintslie.shares import least_share
from hintslie.systems import System
from hintslie.texts import machine_text, system_text
from hintslie.views import views
from test_shares import NONE, drawn, drawn_charges

NO_NAMES = ["", "abcdefghi", "Day", "d1", "-", "da y", "day\n", b"day", ("day",), ["day"], None, 0, True, {}]


def told(system):
    return system.moves, system.requests


def systems(seed, many):
    chance = random.Random(seed)
    return [made_system(chance, chance.randint(1, 6), chance.randint(1, 5)) for _ in range(many)]


class WithRequestTest(unittest.TestCase):
    def test_known(self):
        self.assertEqual(
            system_text(with_request(rent(), "both", (3, None))),
            "post 0 2\npost 0 0\nrequest both 3 -\nrequest day 1 0\nrequest over 0 -\n",
        )
        self.assertEqual(with_request(rent(), "day", (None, 9)),
                         System(((0, 2), (0, 0)), {"day": (None, 9), "over": (0, None)}))
        self.assertEqual(with_request(rent(), "day", (1, 0)), rent())

    def test_made(self):
        chance = random.Random(900)
        told_kinds = {"new": 0, "instead": 0, "too many": 0}
        for system in systems(901, 400):
            before = told(system)
            name = chance.choice(["a", "b", "c", "d", "e", "zz", "ab"])
            prices = tuple([chance.randint(0, 9)] + [chance.choice([None, 0, 9, 4]) for _ in range(system.posts - 1)])
            if len(system.names) == 5 and name not in system.names:
                told_kinds["too many"] += 1
                with self.assertRaises(BadSystem) as caught:
                    with_request(system, name, prices)
                self.assertEqual(caught.exception.part, "requests")
            else:
                told_kinds["instead" if name in system.names else "new"] += 1
                found = with_request(system, name, prices)
                self.assertIs(type(found), System)
                self.assertEqual(told(found), (before[0], {**before[1], name: prices}))
            self.assertEqual(told(system), before)
        self.assertGreater(min(told_kinds.values()), 15)

    def test_bad_names(self):
        for name in NO_NAMES + [thing for thing in objects() if thing not in ("a", "day")]:
            for prices in ((1, 0), None):
                with self.assertRaises(BadSystem) as caught:
                    with_request(rent(), name, prices)
                self.assertEqual(caught.exception.part, "requests")
        with_request(rent(), "abcdefgh", (1, 0))

    def test_bad_prices(self):
        bad = [(), (1,), (1, 0, 0), [1, 0], (None, None), (1, 10), (-1, 0), (True, 0), (0, False), ("1", 0), (1, (0,)),
               {0: 1, 1: 0}, (GREAT, 0), (0, [None]), "10", range(2)]
        for name in ("new", "day"):
            for prices in bad + [thing for thing in objects() if thing not in ((0, 0), (1, 1))]:
                with self.assertRaises(BadSystem) as caught:
                    with_request(rent(), name, prices)
                self.assertEqual(caught.exception.part, "requests")
        for prices in ((0, 0), (9, None), (None, 9)):
            self.assertEqual(with_request(rent(), "new", prices).served("new", 0), prices[0])

    def test_more_than_five(self):
        system = System(((0,),), {name: (0,) for name in "abcde"})
        with self.assertRaises(BadSystem):
            with_request(system, "f", (0,))
        self.assertEqual(with_request(system, "e", (5,)).served("e", 0), 5)

    def test_fact(self):
        chance = random.Random(902)
        charges = drawn_charges(903)
        more = 0
        for system, machine, mode in drawn(904, 80, 40, most=4):
            if len(system.names) == 5:
                continue
            prices = tuple([chance.randint(0, 4)] + [chance.choice([None, 0, 4]) for _ in range(system.posts - 1)])
            larger = with_request(system, "new", prices)
            turns = machine.turns
            chance.choice(turns)["new"] = chance.randrange(len(turns))
            if views(larger, machine, mode) > 100:
                continue
            charge = chance.choice([NONE, next(charges)])
            one = fraction(least_share(system, machine, mode, charge))
            self.assertEqual(fraction(least_share(larger, machine, mode, charge)), one)
            other = fraction(least_share(larger, Machine(turns), mode, charge))
            self.assertGreaterEqual(other, one)
            more += other > one
        self.assertGreater(more, 5)


class WithoutRequestTest(unittest.TestCase):
    def test_known(self):
        self.assertEqual(without_request(rent(), "over"), System(((0, 2), (0, 0)), {"day": (1, 0)}))
        self.assertEqual(system_text(without_request(single(), "x")), "post 0\nrequest y 3\n")

    def test_made(self):
        for system in systems(910, 100):
            before = told(system)
            for name in "abcde":
                if name not in before[1]:
                    with self.assertRaises(NoRequest) as caught:
                        without_request(system, name)
                    self.assertEqual(caught.exception.name, name)
                elif len(before[1]) == 1:
                    with self.assertRaises(BadSystem) as caught:
                        without_request(system, name)
                    self.assertEqual(caught.exception.part, "requests")
                else:
                    rest = {other: before[1][other] for other in before[1] if other != name}
                    self.assertEqual(told(without_request(system, name)), (before[0], rest))
                self.assertEqual(told(system), before)

    def test_there_and_back(self):
        for system in systems(911, 60):
            if len(system.names) < 5:
                self.assertEqual(without_request(with_request(system, "new", (0,) * system.posts), "new"), system)

    def test_no_request_ahead_of_bad_system(self):
        one = System(((0,),), {"x": (0,)})
        for name in NO_NAMES + objects() + ["y", "xx"]:
            with self.assertRaises(NoRequest) as caught:
                without_request(one, name)
            self.assertIs(caught.exception.name, name)
        with self.assertRaises(BadSystem):
            without_request(one, "x")


class WithStepTest(unittest.TestCase):
    def test_known(self):
        self.assertEqual(with_step(rent(), 0, 1, 9).moves, ((0, 9), (0, 0)))
        self.assertEqual(with_step(rent(), 1, 0, 9).moves, ((0, 2), (9, 0)))
        # The way by post 1 is shorter still.
        changed = with_step(detour(), 0, 2, 8)
        self.assertEqual(changed.moves, ((0, 1, 8), (5, 0, 1), (0, 9, 0)))
        self.assertEqual(changed.way(0, 2), 2)
        self.assertEqual(with_step(detour(), 0, 2, 0).way(0, 2), 0)

    def test_made(self):
        chance = random.Random(920)
        for system in systems(921, 120):
            before = told(system)
            for a, b in product(range(system.posts), repeat=2):
                price = chance.randint(0, 9)
                if a == b:
                    with self.assertRaises(BadNumber):
                        with_step(system, a, b, price)
                    with self.assertRaises(BadNumber):
                        with_step(system, a, b, 0)
                    continue
                found = with_step(system, a, b, price)
                for k, j in product(range(system.posts), repeat=2):
                    self.assertEqual(found.moves[k][j], price if (k, j) == (a, b) else before[0][k][j])
                self.assertEqual(found.requests, before[1])
                self.assertTrue(all(type(row) is tuple for row in found.moves))
            self.assertEqual(told(system), before)

    def test_no_post(self):
        for post in number_spoils() + objects() + [2, 3, GREAT]:
            if type(post) is not int or post > 1 or post < 0:
                with self.assertRaises(NoPost) as caught:
                    with_step(rent(), post, 1, 1)
                self.assertIs(caught.exception.post, post)
                with self.assertRaises(NoPost) as caught:
                    with_step(rent(), 0, post, None)
                self.assertIs(caught.exception.post, post)
                with self.assertRaises(NoPost) as caught:
                    with_step(rent(), post, "b", 99)
                self.assertIs(caught.exception.post, post)
                with self.assertRaises(NoPost) as caught:
                    with_step(rent(), post, post, 99)
                self.assertIs(caught.exception.post, post)

    def test_bad_number(self):
        for price in number_spoils() + [thing for thing in objects() if thing not in (0, 1, 2)] + [10, 11, GREAT]:
            with self.assertRaises(BadNumber):
                with_step(rent(), 0, 1, price)
            with self.assertRaises(BadNumber):
                with_step(rent(), 1, 1, price)
        for price in range(10):
            self.assertEqual(with_step(rent(), 0, 1, price).moves, ((0, price), (0, 0)))


def rows_let(machine, names, many):
    return {row for row in product(names, repeat=many) if machine.lets(row)}


def slow_both(one, other):
    """The turns of both machines at once, by the pairs from which both can go on for 16 rounds and more."""
    def behind(pair):
        a, b = pair
        turn, opposite = one.turns[a], other.turns[b]
        return {name: (turn[name], opposite[name]) for name in sorted(turn) if name in opposite}

    def goes_on(pair, many):
        level = {pair}
        for _ in range(many):
            level = {after for ahead in level for after in behind(ahead).values()}
        return bool(level)

    if not goes_on((0, 0), 17):
        return None
    met = [(0, 0)]
    found = []
    for pair in met:
        turn = {name: after for name, after in behind(pair).items() if goes_on(after, 17)}
        found.append(turn)
        met.extend(after for after in dict.fromkeys(turn.values()) if after not in met)
    return tuple({name: met.index(after) for name, after in turn.items()} for turn in found)


class BothTest(unittest.TestCase):
    def test_known(self):
        free = free_machine(rent())
        self.assertEqual(both(free, free), free)
        self.assertEqual(both(line(), free), line())
        self.assertEqual(both(free, line()), line())
        self.assertEqual(both(Machine(({"a": 0, "b": 0},)), Machine(({"b": 0, "c": 0},))), Machine(({"b": 0},)))

    def test_in_the_order_they_are_met(self):
        one = Machine(({"a": 1, "b": 0}, {"a": 1, "b": 0}))
        other = Machine(({"a": 0, "b": 1}, {"a": 1}))
        # The pairs (0, 0), (1, 0), (0, 1), (1, 1).
        self.assertEqual(machine_text(both(one, other)), "state a:1 b:2\nstate a:1 b:2\nstate a:3\nstate a:3\n")

    def test_what_cannot_go_on_is_left_out_again_and_again(self):
        one = Machine(({"a": 1, "b": 0}, {"a": 2}, {"a": 3}, {"c": 0}))
        other = Machine(({"a": 0, "b": 0},))
        # Behind a, a, a nothing is let by both, so no a is.
        self.assertEqual(both(one, other), Machine(({"b": 0},)))
        self.assertEqual(both(other, one), Machine(({"b": 0},)))
        one = Machine(({"a": 1, "b": 0}, {"a": 2, "b": 3}, {"c": 2}, {"d": 3}))
        other = Machine(({"a": 0, "b": 0},))
        self.assertEqual(both(one, other), Machine(({"b": 0},)))

    def test_bad_machine(self):
        for one, other in (
            (Machine(({"a": 0},)), Machine(({"b": 0},))),
            (Machine(({"a": 1}, {"b": 0})), Machine(({"a": 0},))),
            (Machine(({"a": 1}, {"a": 2}, {"a": 3}, {"b": 3})), Machine(({"a": 0},))),
        ):
            for pair in ((one, other), (other, one)):
                with self.assertRaises(BadMachine):
                    both(*pair)

    def ring(self, many, more=()):
        """States that lead to each other by a, round and round."""
        return Machine(tuple({"a": (state + 1) % many, **dict(more)} for state in range(many)))

    def test_too_large(self):
        self.assertEqual(both(self.ring(4), self.ring(2)).states, 4)
        self.assertEqual(both(self.ring(4), self.ring(4)), self.ring(4))
        self.assertEqual(both(self.ring(2), self.ring(1)), self.ring(2))
        for one, other in ((2, 3), (3, 2), (3, 4), (4, 3)):
            with self.assertRaises(TooLarge):
                both(self.ring(one), self.ring(other))

    def test_too_large_behind_what_is_left_out(self):
        # Six pairs are met by a, but only b goes on.
        turns = [{"a": 1, "b": 0}, {"a": 2}, {"a": 3}, {"c": 0}]
        one = Machine(tuple(turns))
        other = Machine(({"a": 1, "b": 0}, {"a": 2}, {"a": 0, "c": 1}))
        self.assertEqual(both(one, other).states, len(slow_both(one, other)))
        chance = random.Random(930)
        kept = 0
        for _ in range(2000):
            one, other = (Machine(tuple(
                {name: chance.randrange(4) for name in chance.sample("abc", chance.choice([1, 1, 2]))}
                for _ in range(4))) for _ in range(2))
            right = slow_both(one, other)
            met = {(0, 0)}
            for _ in range(16):
                met |= {(one.turns[a][name], other.turns[b][name])
                        for a, b in met for name in one.turns[a] if name in other.turns[b]}
            if right is not None and len(right) <= 4 < len(met):
                self.assertEqual(both(one, other).turns, right)
                kept += 1
        self.assertGreater(kept, 5)

    def test_made(self):
        chance = random.Random(940)
        kinds = {BadMachine: 0, TooLarge: 0, None: 0}
        for _ in range(400):
            system = made_system(chance, 1, chance.randint(2, 4))
            one, other = made_machine(chance, system), made_machine(chance, system)
            before = one.turns, other.turns
            right = slow_both(one, other)
            kind = BadMachine if right is None else TooLarge if len(right) > 4 else None
            kinds[kind] += 1
            if kind is not None:
                with self.assertRaises(kind):
                    both(one, other)
            else:
                found = both(one, other)
                self.assertIs(type(found), Machine)
                self.assertEqual(found.turns, right)
                for many in range(5):
                    # A row that both let is let if both can go on behind it.
                    rows = rows_let(found, system.names, many)
                    self.assertLessEqual(rows, rows_let(one, system.names, many) & rows_let(other, system.names, many))
            self.assertEqual((one.turns, other.turns), before)
        self.assertGreater(min(kinds.values()), 20)

    def test_fact(self):
        chance = random.Random(950)
        charges = drawn_charges(951)
        tried = less = 0
        for system, machine, mode in drawn(952, 150):
            other = made_machine(chance, system)
            right = slow_both(machine, other)
            if right is None or len(right) > 4:
                continue
            charge = chance.choice([NONE, next(charges)])
            share = fraction(least_share(system, both(machine, other), mode, charge))
            for one in (machine, other):
                if views(system, one, mode) < 200:
                    most = fraction(least_share(system, one, mode, charge))
                    self.assertLessEqual(share, most)
                    tried += 1
                    less += share < most
        self.assertGreater(tried, 60)
        self.assertGreater(less, 5)


class StayTest(unittest.TestCase):
    def test_what_was_returned_may_be_changed(self):
        system = stall()
        for found in (with_request(system, "a", (1, 3)), with_step(system, 0, 1, 3)):
            found.requests.clear()
            self.assertEqual(found, stall())
        self.assertEqual(system, stall())
        machine = both(line(), line())
        machine.turns[0].clear()
        self.assertEqual(machine, both(line(), line()))
        self.assertNotEqual(both(line(), line()).turns[0], {})
        for mode in MODES:
            self.assertEqual(least_share(rent(), machine, mode, NONE), least_share(rent(), line(), mode, NONE))


if __name__ == "__main__":
    unittest.main()
