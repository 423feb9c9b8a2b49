import unittest

from helpers import GREAT, detour, less, line, objects, rent, replaced
from hintslie.errors import BadMachine
from hintslie.machines import Machine, free_machine

TURNS = ({"do": 1, "re": 0}, {"re": 2}, {"mi": 0, "do": 2})


class MachineTest(unittest.TestCase):
    def assert_bad(self, turns):
        with self.assertRaises(BadMachine):
            Machine(turns)

    def test_what_is_told_of_it(self):
        machine = Machine(TURNS)
        self.assertEqual(machine.turns, TURNS)
        self.assertEqual(machine.states, 3)
        self.assertIsInstance(machine.turns, tuple)

    def test_number_of_states(self):
        for states in range(1, 5):
            turns = tuple({"a": states - 1} for _ in range(states))
            self.assertEqual(Machine(turns).states, states)
            self.assertEqual(Machine(turns).turns, turns)
        self.assert_bad(())
        self.assert_bad(({"a": 0},) * 5)

    def test_many_names(self):
        turns = ({name: 0 for name in "abcdefgh"},)
        self.assertEqual(Machine(turns).turns, turns)

    def test_dicts_of_states(self):
        for state in range(3):
            for turn in ({}, [], [("do", 1)], (("do", 1),), "do", None):
                self.assert_bad(replaced(TURNS, state, turn))
        self.assert_bad(list(TURNS))
        self.assert_bad({0: {"a": 0}})

    def test_names(self):
        for name in ("a", "z", "abcdefgh"):
            self.assertEqual(Machine(({name: 0},)).turns, ({name: 0},))
        for name in ["", "abcdefghi", "Ab", "a1", "a b", "a\n", 1, None, True, b"ab", ("a",), GREAT]:
            self.assert_bad(({name: 0},))
            self.assert_bad(({"a": 0}, {"a": 1, name: 0}))

    def test_numbers_of_states(self):
        for number in [3, -1, True, False, None, "0", [0], (0,), {}, GREAT, -GREAT]:
            for state in range(3):
                self.assert_bad(replaced(TURNS, state, {"do": 0, "re": number}))
        for number in less(objects(), int):
            self.assert_bad(({"do": number},))

    def test_other_things(self):
        for thing in objects():
            self.assert_bad(thing)
            self.assert_bad([thing])
            if not isinstance(thing, dict) or thing == {}:
                self.assert_bad((thing,))
                self.assert_bad(({"do": 0}, thing))

    def test_turns_are_new_each_time(self):
        machine = Machine(TURNS)
        first = machine.turns
        first[0]["la"] = 0
        first[1].clear()
        self.assertEqual(machine.turns, TURNS)
        for one, other in zip(machine.turns, machine.turns):
            self.assertIsNot(one, other)

    def test_what_was_passed_may_be_changed(self):
        turns = tuple(dict(turn) for turn in TURNS)
        machine = Machine(turns)
        turns[0].clear()
        turns[1]["do"] = 0
        self.assertEqual(machine.turns, TURNS)
        self.assertIs(machine.lets(["do", "do"]), False)
        self.assertIs(machine.lets(["do", "re"]), True)

    def test_lets(self):
        machine = Machine(TURNS)
        let = [(), ("do",), ("re",), ("re", "re", "re", "do"), ("do", "re", "mi", "do", "re", "do", "do", "mi")]
        not_let = [("mi",), ("do", "do"), ("do", "mi"), ("re", "re", "mi"), ("do", "re", "re"), ("la",)]
        for row in let:
            self.assertIs(machine.lets(row), True)
            self.assertIs(machine.lets(list(row)), True)
        for row in not_let:
            self.assertIs(machine.lets(row), False)
            self.assertIs(machine.lets(list(row)), False)

    def test_lets_long_rows(self):
        machine = Machine(TURNS)
        row = ["do", "re", "mi"] * 100
        self.assertIs(machine.lets(row), True)
        for index in range(0, 300, 7):
            self.assertIs(machine.lets(row[:index] + ["la"] + row[index + 1:]), False)
        self.assertIs(machine.lets(row[:299] + ["re"]), False)
        self.assertEqual(row, ["do", "re", "mi"] * 100)

    def test_lets_judges_any_object(self):
        machine = Machine(({"day": 0, "a": 0},))
        for thing in objects():
            let = thing in ([], (), ("day",)) if isinstance(thing, (list, tuple)) else False
            self.assertIs(machine.lets(thing), let)
            if thing not in ("day", "a"):
                self.assertIs(machine.lets([thing]), False)
                self.assertIs(machine.lets(("day", thing)), False)
        self.assertIs(machine.lets("a"), False)
        self.assertIs(machine.lets({"day": 0}), False)

    def test_equality(self):
        machine = Machine(TURNS)
        for other in (Machine(TURNS), machine, Machine(({"re": 0, "do": 1}, {"re": 2}, {"do": 2, "mi": 0}))):
            self.assertIs(machine == other, True)
            self.assertIs(machine != other, False)
        unlike = [
            Machine(TURNS + ({"do": 0},)), Machine(replaced(TURNS, 1, {"re": 1})), line(),
            Machine(replaced(TURNS, 1, {"do": 2})), Machine(replaced(TURNS, 1, {"re": 2, "do": 2})),
        ]
        for other in unlike + objects() + [TURNS]:
            self.assertIs(machine == other, False)
            self.assertIs(machine != other, True)

    def test_machines_that_let_the_same_may_be_unequal(self):
        self.assertIs(Machine(({"a": 0},)) == Machine(({"a": 1}, {"a": 0})), False)

    def test_free_machine(self):
        self.assertEqual(free_machine(rent()).turns, ({"day": 0, "over": 0},))
        self.assertEqual(free_machine(rent()).states, 1)
        self.assertEqual(free_machine(detour()), Machine(({"in": 0, "out": 0, "up": 0},)))
        self.assertIsInstance(free_machine(rent()), Machine)
        self.assertIs(free_machine(rent()).lets(["day", "over", "over"]), True)


if __name__ == "__main__":
    unittest.main()
