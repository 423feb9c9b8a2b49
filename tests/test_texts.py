import random
import unittest

from helpers import GREAT, detour, line, made, made_machine, made_system, pages, rent, single, walked
from hintslie.machines import Machine, free_machine
from hintslie.systems import System
from hintslie.texts import machine_text, system_text, view_text


def worked_out_system(moves, requests):
    text = ""
    for prices in moves:
        text += "post"
        for price in prices:
            text += " " + format(price, "d")
        text += "\n"
    for name in sorted(requests):
        text += "request " + name
        for price in requests[name]:
            text += " " + ("-" if price is None else format(price, "d"))
        text += "\n"
    return text


def worked_out_machine(turns):
    text = ""
    for turn in turns:
        text += "state"
        for name in sorted(turn):
            text += " " + name + ":" + format(turn[name], "d")
        text += "\n"
    return text


class SystemTextTest(unittest.TestCase):
    def test_known(self):
        self.assertEqual(system_text(rent()), "post 0 2\npost 0 0\nrequest day 1 0\nrequest over 0 -\n")
        self.assertEqual(system_text(single()), "post 0\nrequest x 0\nrequest y 3\n")
        self.assertEqual(
            system_text(detour()),
            "post 0 1 9\npost 5 0 1\npost 0 9 0\nrequest in 3 0 -\nrequest out - - 4\nrequest up 2 2 2\n",
        )

    def test_names_ascending(self):
        system = System(((0,),), {"b": (1,), "abc": (2,), "z": (3,), "ab": (4,), "zzzzzzzz": (5,)})
        text = "post 0\nrequest ab 4\nrequest abc 2\nrequest b 1\nrequest z 3\nrequest zzzzzzzz 5\n"
        self.assertEqual(system_text(system), text)

    def test_moves_stay_as_they_are(self):
        # The step from 0 to 2 is dearer than the way; the text has the step.
        system = System(((0, 1, 9), (9, 0, 1), (1, 9, 0)), {"a": (None, None, 0)})
        self.assertEqual(system_text(system), "post 0 1 9\npost 9 0 1\npost 1 9 0\nrequest a - - 0\n")

    def test_made(self):
        chance = random.Random(610)
        for _ in range(200):
            system = made_system(chance, chance.randint(1, 6), chance.randint(1, 5))
            self.assertEqual(system_text(system), worked_out_system(system.moves, system.requests))

    def test_the_order_of_keys_means_nothing(self):
        one = System(((0, 2), (0, 0)), {"over": (0, None), "day": (1, 0)})
        self.assertEqual(system_text(one), system_text(rent()))


class MachineTextTest(unittest.TestCase):
    def test_known(self):
        self.assertEqual(machine_text(free_machine(rent())), "state day:0 over:0\n")
        self.assertEqual(machine_text(line()), "state day:0 over:1\nstate day:2\nstate day:2 over:0\n")
        self.assertEqual(machine_text(Machine(({"zzzzzzzz": 1}, {"a": 0}))), "state zzzzzzzz:1\nstate a:0\n")
        self.assertEqual(machine_text(free_machine(pages())), "state a:0 b:0 c:0\n")

    def test_made(self):
        chance = random.Random(611)
        for _ in range(200):
            machine = made_machine(chance, made_system(chance, 1, chance.randint(1, 5)))
            self.assertEqual(machine_text(machine), worked_out_machine(machine.turns))

    def test_states_in_order(self):
        machine = Machine(({"b": 3}, {"a": 2}, {"a": 1, "b": 0}, {"c": 0}))
        self.assertEqual(machine_text(machine), "state b:3\nstate a:2\nstate a:1 b:0\nstate c:0\n")

    def test_the_order_of_keys_means_nothing(self):
        one = Machine(({"over": 1, "day": 0}, {"day": 2}, {"over": 0, "day": 2}))
        self.assertEqual(machine_text(one), machine_text(line()))


class ViewTextTest(unittest.TestCase):
    def test_known(self):
        self.assertEqual(view_text((0, 0, (0, 2), None)), "0 0 0,2 -")
        self.assertEqual(view_text((3, 5, (0, 1, 12, 9, 45, 0), "over")), "3 5 0,1,12,9,45,0 over")
        self.assertEqual(view_text((0, 0, (0,), "x")), "0 0 0 x")
        self.assertEqual(view_text((1, 1, (GREAT, 0), "zzzzzzzz")), "1 1 1" + "0" * 29 + ",0 zzzzzzzz")

    def test_all_that_come(self):
        for system, machine, mode in made(612, 30):
            for view in walked(system, machine, mode, 60):
                state, post, offsets, hint = view
                words = [str(state), str(post), ",".join(map(str, offsets)), hint or "-"]
                self.assertEqual(view_text(view), " ".join(words))


if __name__ == "__main__":
    unittest.main()
