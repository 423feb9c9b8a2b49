import random
import unittest
from itertools import product

from helpers import (
    MODES, detour, flagged, line, made, made_machine, made_system, no_views, objects, outcomes, pages, rent,
    replaced, single, slope, stall, walked,
)
from hintslie.errors import BadMode, TooMany, Unsuited
from hintslie.machines import Machine, free_machine
from hintslie.memory import is_memory, lesser_machine, memory
from hintslie.shares import least_share
from hintslie.systems import System
from hintslie.tables import table
from hintslie.texts import machine_text, view_text
from hintslie.views import first_view
from test_shares import NONE, drawn, drawn_charges
from test_views import JUST_LET, JUST_TOO_MANY, NO_MODES, STRANGE


def idle():
    """A system in which two posts are as good as each other, and one request is served for nothing."""
    return System(((0, 0, 3), (0, 0, 3), (3, 3, 0)), {"a": (1, 1, 0), "b": (0, 0, 0)})


def unlike(one, other):
    """Whether what comes at two views, by their outcomes, is unlike but for the views behind."""
    if list(one) != list(other):
        return True
    return any(
        [(result[0][1], *result[1:]) for result in one[ask]] != [(result[0][1], *result[1:]) for result in other[ask]]
        for ask in one
    )


def slow_alike(system, machine, mode):
    """For each view that comes the views that are alike: pairs are taken apart until none has to be any more."""
    graph = walked(system, machine, mode)
    apart = {(one, other) for one, other in product(graph, repeat=2) if unlike(graph[one], graph[other])}
    while True:
        more = {
            (one, other) for one, other in product(graph, repeat=2)
            if (one, other) not in apart and any(
                (left[0], right[0]) in apart
                for ask in graph[one] for left, right in zip(graph[one][ask], graph[other][ask])
            )
        }
        if not more:
            return {one: [other for other in graph if (one, other) not in apart] for one in graph}
        apart |= more


def slow_memory(system, machine, mode):
    """The parts in the order of the document."""
    parts = {tuple(sorted(part, key=view_text)) for part in slow_alike(system, machine, mode).values()}
    return sorted(parts, key=lambda part: [view_text(view) for view in part])


def shows_alike(graph, thing):
    """Whether the clauses hold for a row of tuples of views, none of them empty, if these come, with their outcomes."""
    told = [view for part in thing for view in part]
    if len(told) != len(graph) or set(told) != set(graph):
        return False
    number = {view: index for index, part in enumerate(thing) for view in part}
    for part in thing:
        for one in part[1:]:
            if unlike(graph[part[0]], graph[one]):
                return False
            for ask in graph[one]:
                for left, right in zip(graph[part[0]][ask], graph[one][ask]):
                    if number[left[0]] != number[right[0]]:
                        return False
    return True


def cases(seed, many, views=40):
    found = [(one, free_machine(one), mode) for one in (rent(), pages(), single(), slope(), idle()) for mode in MODES]
    found += [(rent(), line(), mode) for mode in MODES]
    found += [(idle(), Machine(({"a": 1, "b": 2}, {"a": 2, "b": 1}, {"a": 1, "b": 2})), mode) for mode in MODES]
    return found + drawn(seed, many, views, most=2)


class MemoryTest(unittest.TestCase):
    def test_known(self):
        # With one request at one post all that was is forgotten, but what was hinted.
        system = System(((0,),), {"x": (0,), "y": (3,)})
        machine = free_machine(system)
        self.assertEqual(memory(system, machine, "none"), [((0, 0, (0,), None),)])
        self.assertEqual(memory(system, machine, "free"), [
            ((0, 0, (0,), None),), ((0, 0, (0,), "x"),), ((0, 0, (0,), "y"),),
        ])
        # Two states that let the same rows are alike, and so are views that differ in them.
        twice = Machine(({"x": 1}, {"x": 0}))
        self.assertEqual(memory(system, twice, "none"), [((0, 0, (0,), None), (1, 0, (0,), None))])
        self.assertEqual(memory(system, twice, "true"), [
            ((0, 0, (0,), None), (0, 0, (0,), "x"), (1, 0, (0,), "x")),
        ])

    def test_beside_pairs_taken_apart(self):
        together = apart = 0
        for case in cases(800, 80):
            found = memory(*case)
            self.assertIs(type(found), list)
            self.assertTrue(all(type(part) is tuple and part for part in found))
            self.assertEqual(found, slow_memory(*case))
            together += any(len(part) > 1 for part in found)
            apart += len(found) > 1
        self.assertGreater(min(together, apart), 20)

    def test_order(self):
        for case in cases(810, 60):
            found = memory(*case)
            texts = [[view_text(view) for view in part] for part in found]
            for part in texts:
                self.assertEqual(part, sorted(part))
            self.assertEqual([part[0] for part in texts], sorted(part[0] for part in texts))

    def test_as_coarse_as_can_be(self):
        for case in cases(820, 60, 20):
            found = memory(*case)
            self.assertIs(is_memory(*case, found), True)
            for k, one in enumerate(found):
                for j, other in enumerate(found[:k]):
                    rest = [part for index, part in enumerate(found) if index not in (k, j)]
                    self.assertIs(is_memory(*case, rest + [one + other]), False)

    def test_alike_views_have_the_same_numbers(self):
        charges = drawn_charges(830)
        told = 0
        for case in cases(831, 120):
            charge = next(charges)
            share = least_share(*case, charge)
            found = table(*case, share, charge)
            for part in memory(*case):
                numbers = {found[view] for view in part}
                self.assertEqual(len(numbers), 1)
                told += len(part) > 1 and numbers != {0}
        self.assertGreater(told, 10)

    def test_many_views(self):
        for mode, moves, requests in JUST_LET:
            system = System(moves, requests)
            case = (system, free_machine(system), mode)
            found = memory(*case)
            self.assertEqual(sum(len(part) for part in found), 1000)
            self.assertIs(is_memory(*case, found), True)

    def test_new_lists(self):
        case = (rent(), line(), "free")
        found = memory(*case)
        first = list(found)
        found.clear()
        self.assertEqual(memory(*case), first)

    def test_the_order_of_keys_means_nothing(self):
        other_rent = System(((0, 2), (0, 0)), {"over": (0, None), "day": (1, 0)})
        other_line = Machine(({"over": 1, "day": 0}, {"day": 2}, {"over": 0, "day": 2}))
        for mode in MODES:
            self.assertEqual(memory(other_rent, other_line, mode), memory(rent(), line(), mode))


class IsMemoryTest(unittest.TestCase):
    CASES = [
        (single(), Machine(({"x": 1, "y": 0}, {"x": 0, "y": 1})), "true"), (idle(), free_machine(idle()), "free"),
        (rent(), line(), "free"), (idle(), Machine(({"a": 1, "b": 0}, {"a": 0, "b": 1})), "none"),
    ]

    def test_alike_views_are_here(self):
        for case in (self.CASES[0], self.CASES[1], self.CASES[3]):
            self.assertLess(len(memory(*case)), len(walked(*case)))

    def test_told_and_finer_ones(self):
        for case in self.CASES:
            found = memory(*case)
            for thing in (found, tuple(found), found[::-1], [part[::-1] for part in found]):
                self.assertIs(is_memory(*case, thing), True)
            alone = [(view,) for view in walked(*case)]
            self.assertIs(is_memory(*case, alone), True)
            self.assertIs(is_memory(*case, tuple(alone)), True)

    def test_drawn_partitions(self):
        told = [0, 0]
        chance = random.Random(840)
        for case in self.CASES:
            graph = walked(*case)
            coarsest = memory(*case)
            for number in range(120):
                if number % 2:
                    parts = [[] for _ in range(chance.randint(1, len(graph)))]
                    for view in sorted(graph, key=view_text):
                        chance.choice(parts).append(view)
                else:
                    # Parts of the coarsest one taken apart: sometimes they still fit, sometimes they do not.
                    parts = []
                    for part in coarsest:
                        cut = chance.choice([0, 0, chance.randrange(len(part))])
                        parts += [list(part[:cut]), list(part[cut:])]
                thing = [tuple(part) for part in parts if part]
                right = shows_alike(graph, thing)
                self.assertIs(is_memory(*case, thing), right)
                told[right] += 1
        self.assertGreater(min(told), 40)

    def test_one_moved(self):
        for case in self.CASES:
            graph = walked(*case)
            found = memory(*case)
            for k, part in enumerate(found):
                for view in part:
                    rest = tuple(other for other in part if other != view)
                    others = [one for index, one in enumerate(found) if index != k]
                    without = others + [rest] if rest else others
                    self.assertIs(is_memory(*case, without), False)
                    self.assertIs(is_memory(*case, others + [part + (view,)]), False)
                    self.assertIs(is_memory(*case, found + [(view,)]), False)
                    for j, other in enumerate(others):
                        spoiled = list(without)
                        spoiled[j] = other + (view,)
                        self.assertIs(is_memory(*case, spoiled), shows_alike(graph, spoiled))
                    thing = without + [(view,)]
                    self.assertIs(is_memory(*case, thing), shows_alike(graph, thing))

    def test_kinds_of_parts(self):
        for case in self.CASES:
            found = memory(*case)
            self.assertIs(is_memory(*case, found + [()]), False)
            self.assertIs(is_memory(*case, [()] + found), False)
            for k, part in enumerate(found):
                rest = found[:k] + found[k + 1:]
                for thing in (list(part), dict.fromkeys(part), set(part), None, part[0], 0, "", (part,), iter(part)):
                    self.assertIs(is_memory(*case, rest + [thing]), False)
                for thing in objects():
                    self.assertIs(is_memory(*case, rest + [thing]), False)
                    self.assertIs(is_memory(*case, rest + [part[1:] + (thing,)]), False)

    def test_views_that_never_come_and_no_views(self):
        for case in self.CASES:
            found = memory(*case)
            first = first_view(case[0])
            for thing in no_views(first):
                self.assertIs(is_memory(*case, found + [(thing,)]), False)
                self.assertIs(is_memory(*case, [part + (thing,) for part in found[:1]] + found[1:]), False)
                instead = [tuple(thing if view == first else view for view in part) for part in found]
                self.assertIs(is_memory(*case, instead), False)
        case = (rent(), line(), "free")
        self.assertIs(is_memory(*case, memory(*case) + [((1, 0, (0, 2), None),)]), False)
        instead = [tuple((1, 0, (0, 2), None) if view == first_view(rent()) else view for view in part)
                   for part in memory(*case)]
        self.assertIs(is_memory(*case, instead), False)

    def test_flags_inside_views(self):
        for case in self.CASES:
            found = memory(*case)
            for k, part in enumerate(found):
                for j, view in enumerate(part):
                    for spoiled in flagged({view: 0}):
                        for key in spoiled:
                            self.assertEqual(key, view)
                            self.assertIs(is_memory(*case, replaced(found, k, replaced(part, j, key))), False)

    def test_no_rows(self):
        for case in self.CASES:
            found = memory(*case)
            for thing in objects():
                self.assertIs(is_memory(*case, thing), False)
            for thing in (set(found), dict.fromkeys(found), iter(found), enumerate(found), str(found), found[0], []):
                self.assertIs(is_memory(*case, thing), False)

    def test_of_another_mode(self):
        found = memory(rent(), line(), "free")
        self.assertIs(is_memory(rent(), line(), "none", found), False)
        self.assertIs(is_memory(rent(), line(), "free", memory(rent(), line(), "none")), False)


class MemoryErrorsTest(unittest.TestCase):
    def test_errors_in_their_order(self):
        with self.assertRaises(Unsuited) as caught:
            memory(rent(), STRANGE, "no")
        self.assertEqual(caught.exception.name, "mist")
        with self.assertRaises(Unsuited):
            is_memory(rent(), STRANGE, "none", [])
        for thing in objects() + NO_MODES:
            with self.assertRaises(BadMode):
                memory(rent(), line(), thing)
        for mode, moves, requests in JUST_TOO_MANY:
            system = System(moves, requests)
            with self.assertRaises(BadMode):
                memory(system, free_machine(system), "no")
            with self.assertRaises(TooMany) as caught:
                memory(system, free_machine(system), mode)
            self.assertEqual(caught.exception.most, 1000)
            for thing in (None, [], [(first_view(system),)]):
                with self.assertRaises(TooMany) as caught:
                    is_memory(system, free_machine(system), mode, thing)
                self.assertEqual(caught.exception.most, 1000)


def rows_let(turns, state, names, longest):
    """All rows of so many names at most that can be gone from a state on."""
    found = set()
    for many in range(longest + 1):
        for row in product(names, repeat=many):
            at = state
            for name in row:
                at = turns[at].get(name) if at is not None else None
            if at is not None:
                found.add(row)
    return found


def slow_lesser(machine):
    """The turns of the lesser machine, by the rows of up to 5 names that states let."""
    turns = machine.turns
    names = sorted({name for turn in turns for name in turn})
    let = [rows_let(turns, state, names, 5) for state in range(len(turns))]
    met = [0]
    for state in met:
        for name in sorted(turns[state]):
            if let[turns[state][name]] not in [let[other] for other in met]:
                met.append(turns[state][name])
    numbers = [let[state] for state in met]
    return tuple({name: numbers.index(let[turns[state][name]]) for name in turns[state]} for state in met)


class LesserMachineTest(unittest.TestCase):
    def test_known(self):
        self.assertEqual(lesser_machine(free_machine(rent())), free_machine(rent()))
        self.assertEqual(lesser_machine(line()), line())
        self.assertEqual(lesser_machine(Machine(({"a": 1}, {"a": 2}, {"a": 0}))), Machine(({"a": 0},)))
        # The state 1 cannot be come to, and 2 and 3 are alike.
        machine = Machine(({"b": 3, "a": 2}, {"a": 0}, {"a": 0}, {"a": 0}))
        self.assertEqual(lesser_machine(machine), Machine(({"a": 1, "b": 1}, {"a": 0})))

    def test_numbered_as_they_are_met(self):
        machine = Machine(({"a": 3, "b": 1}, {"c": 1}, {"b": 0}, {"a": 0, "c": 2}))
        self.assertEqual(machine_text(lesser_machine(machine)), "state a:1 b:2\nstate a:0 c:3\nstate c:2\nstate b:0\n")
        machine = Machine(({"b": 1, "a": 2}, {"b": 0}, {"a": 0}))
        self.assertEqual(machine_text(lesser_machine(machine)), "state a:1 b:2\nstate a:0\nstate b:0\n")
        # The states that are met first stand first, whatever leads on from them.
        machine = Machine(({"a": 2, "c": 1}, {"a": 0, "b": 0}, {"b": 3}, {"c": 0}))
        self.assertEqual(machine_text(lesser_machine(machine)), "state a:1 c:2\nstate b:3\nstate a:0 b:0\nstate c:0\n")

    def test_beside_rows(self):
        told = {"less": 0, "same": 0, "turned": 0}
        chance = random.Random(850)
        for _ in range(250):
            machine = made_machine(chance, made_system(chance, 1, chance.randint(1, 3)))
            turns = machine.turns
            found = lesser_machine(machine)
            self.assertIs(type(found), Machine)
            self.assertEqual(found.turns, slow_lesser(machine))
            self.assertEqual(machine.turns, turns)
            self.assertEqual(rows_let(found.turns, 0, found.names, 5), rows_let(turns, 0, machine.names, 5))
            self.assertEqual(lesser_machine(found), found)
            kind = "less" if found.states < machine.states else "same" if found == machine else "turned"
            told[kind] += 1
        self.assertGreater(min(told.values()), 15)

    def test_all_small_machines(self):
        turns = [{"a": 0}, {"a": 1}, {"b": 0}, {"b": 1}] + [{"a": a, "b": b} for a in (0, 1) for b in (0, 1)]
        for pair in product(turns, repeat=2):
            self.assertEqual(lesser_machine(Machine(pair)).turns, slow_lesser(Machine(pair)))

    def test_the_same_least_shares(self):
        charges = drawn_charges(860)
        less = 0
        for system, machine, mode in drawn(861, 120):
            lesser = lesser_machine(machine)
            less += lesser.states < machine.states
            for charge in (NONE, next(charges)):
                self.assertEqual(least_share(system, lesser, mode, charge), least_share(system, machine, mode, charge))
        self.assertGreater(less, 15)

    def test_the_order_of_keys_means_nothing(self):
        one = Machine(({"b": 3, "a": 2}, {"a": 0}, {"a": 0}, {"a": 0}))
        other = Machine(({"a": 2, "b": 3}, {"a": 0}, {"a": 0}, {"a": 0}))
        self.assertEqual(list(lesser_machine(one).turns[0]), list(lesser_machine(other).turns[0]))

    def test_alike_states_make_alike_views(self):
        for system, machine, mode in made(870, 60) + [(detour(), free_machine(detour()), "none")]:
            if len(walked(system, machine, mode, 40)) <= 40:
                lesser = lesser_machine(machine)
                self.assertEqual(len(memory(system, lesser, mode)), len(memory(system, machine, mode)))
        self.assertEqual(len(memory(stall(), free_machine(stall()), "none")), len(slow_memory(
            stall(), free_machine(stall()), "none")))


if __name__ == "__main__":
    unittest.main()
