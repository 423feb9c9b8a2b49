import random
import unittest

from helpers import (
    GREAT, MODES, detour, line, made, made_machine, made_system, objects, pages, rent, single, walked,
)
from hintslie.errors import BadMachine, BadMode, BadSystem, BadText, BadView, Unsuited
from hintslie.machines import Machine, free_machine
from hintslie.reading import read_machine, read_system, read_view
from hintslie.systems import System
from hintslie.texts import machine_text, system_text, view_text
from test_views import NO_MODES, STRANGE

NO_NUMBERS = [
    "", "00", "01", "007", "+1", "-1", "-0", "1.0", "1e3", "1_0", "0x1", "a", "1a", "a1", "1234567890", "0000000000",
    "1\r", "1\t", "\t1", "None", "1,", "1:", ":1", "*", "--", "1-", "0 ",
]
NO_NAMES = ["", "abcdefghi", "Day", "daY", "d1", "1", "-", "d-y", "d_y", "day:", "day\r", "\tday", "d.y", "\\"]


def is_no_string():
    return [thing for thing in objects() if not isinstance(thing, str)]


class ReadingTest(unittest.TestCase):
    def line_wrong(self, read, text, number):
        with self.assertRaises(BadText) as caught:
            read(text)
        self.assertEqual(caught.exception.line, number, text)
        self.assertIs(type(caught.exception.line), int)

    def each_line_wrong(self, read, lines, wrong):
        """Each of the wrong lines in the place of each line, whatever stands behind it."""
        for index in range(len(lines)):
            for one in wrong:
                spoiled = lines[:index] + [one] + lines[index + 1:]
                for rest in ("", "post 0", "-"):
                    self.line_wrong(read, "\n".join(spoiled) + "\n" + rest, index + 1)


class ReadSystemTest(ReadingTest):
    def test_known(self):
        self.assertEqual(read_system("post 0 2\npost 0 0\nrequest day 1 0\nrequest over 0 -\n"), rent())
        self.assertEqual(read_system("post 0\nrequest x 0\nrequest y 3\n"), single())

    def test_there_and_back(self):
        chance = random.Random(620)
        systems = [rent(), pages(), single(), detour()]
        systems += [made_system(chance, chance.randint(1, 6), chance.randint(1, 5)) for _ in range(200)]
        for system in systems:
            read = read_system(system_text(system))
            self.assertIs(type(read), System)
            self.assertEqual(read, system)
            self.assertEqual(read.requests, system.requests)
            self.assertTrue(all(type(row) is tuple for row in read.moves))
            self.assertEqual(system_text(read), system_text(system))

    def test_no_string(self):
        for thing in is_no_string():
            self.line_wrong(read_system, thing, 0)
        self.line_wrong(read_system, ["post 0", "request x 0"], 0)
        self.line_wrong(read_system, b"post 0\nrequest x 0\n", 0)

    def test_a_line_that_has_not_the_form(self):
        lines = ["post 0 2", "post 0 0", "request day 1 0", "request over 0 -"]
        wrong = [
            "", " ", "post", "post ", "request", "request ", "request zone", "request zone ", "post  0 0",
            "post 0  0", " post 0 0", "post 0 0 ", "posts 0 0", "Post 0 0", "state a:0", "POST 0 0", "0 0", "post\t0 0",
            "post 0 0\r", "post 0\t0", "post -", "post 0 -", "post - 0", "request  zone 0 0", "request zone  0 0",
            "request zone 0 0 ", " request zone 0 0", "requests zone 0 0", "request zone 0 0\r", "request zone 0,0",
            "request 0 0", "request zone:0 0", "post 0,0", "post 0|0", "request zone 0 --",
            "request zone 0 -\t", "-", "post day 0 0",
        ]
        wrong += ["post 0 " + word for word in NO_NUMBERS] + ["post " + word + " 0" for word in NO_NUMBERS]
        wrong += ["request zone 0 " + word for word in NO_NUMBERS]
        wrong += ["request zone " + word + " -" for word in NO_NUMBERS]
        wrong += ["request " + word + " 0 0" for word in NO_NAMES]
        self.each_line_wrong(read_system, lines, wrong)

    def test_a_post_behind_a_request(self):
        self.line_wrong(read_system, "request day 1 0\npost 0 2\npost 0 0\n", 2)
        self.line_wrong(read_system, "post 0 2\nrequest day 1 0\npost 0 0\nrequest over 0 -\n", 3)
        self.line_wrong(read_system, "post 0 2\npost 0 0\nrequest day 1 0\nrequest over 0 -\npost 0 0\n", 5)

    def test_names_that_are_not_strictly_ascending(self):
        head = "post 0\n"
        for names, number in (
            ("aa", 3), ("ba", 3), ("abb", 4), ("aba", 4), ("abcb", 5), (("day", "da"), 3), (("da", "day", "da"), 4),
            (("zz", "z"), 3), ("bcda", 5), ("cab", 3),
        ):
            text = head + "".join("request " + name + " 0\n" for name in names)
            self.line_wrong(read_system, text, number)
        read_system(head + "request a 0\nrequest aa 0\nrequest ab 0\nrequest b 0\n")

    def test_behind_the_last_line_feed(self):
        self.line_wrong(read_system, "post 0\nrequest x 0", 2)
        self.line_wrong(read_system, "post 0\nrequest x 0\n ", 3)
        self.line_wrong(read_system, "post 0\nrequest x 0\nrequest y 3", 3)
        self.line_wrong(read_system, "post 0", 1)
        self.line_wrong(read_system, "x", 1)
        self.line_wrong(read_system, " ", 1)
        self.line_wrong(read_system, "\r", 1)
        # Ahead of what systems may not be, too, and behind lines that are wrong.
        self.line_wrong(read_system, "post 0 0\n-", 2)
        self.line_wrong(read_system, "post 1\nrequest a 10\nrequest", 3)
        self.line_wrong(read_system, "post 0\n\nrequest a 0", 2)
        self.line_wrong(read_system, "\n", 1)
        self.line_wrong(read_system, "\n\n\n", 1)

    def test_of_several_wrong_lines_the_first_one_counts(self):
        self.line_wrong(read_system, "post 0\npost x\nrequest\nrequest a -1\n", 2)
        self.line_wrong(read_system, "post 0 0\npost 0\nrequest b 0\nrequest a 0\n\npost 0\n", 4)
        self.line_wrong(read_system, "request b 0\nrequest a 0\npost 01\n", 2)

    def part_bad(self, text, part):
        with self.assertRaises(BadSystem) as caught:
            read_system(text)
        self.assertEqual(caught.exception.part, part)

    def test_bad_system(self):
        self.part_bad("", "moves")
        self.part_bad("request a 0\n", "moves")
        self.part_bad("post 0\n", "requests")
        self.part_bad("post 0 1\npost 1 0\n", "requests")
        for text in ("post 1\n", "post 0 0\n", "post 0 1\npost 1\n", "post 0 1\npost 1 0 0\n", "post 0\npost 0\n",
                     "post 0 10\npost 0 0\n", "post 0 0\npost 999999999 0\n", "post 0 0\npost 0 1\n",
                     "post 0 0 0 0 0 0 0\n" * 7):
            self.part_bad(text + "request a 0\n", "moves")
            self.part_bad(text + "request a 0 0\n", "moves")
            self.part_bad(text, "moves")
        self.part_bad(("post" + " 0" * 7 + "\n") * 7 + "request a - - 0 0 0 0 0\n", "moves")
        head = "post 0 1\npost 1 0\n"
        for text in ("request a 0\n", "request a 0 0 0\n", "request a - -\n", "request a 10 0\n",
                     "request a 0 999999999\n", "request a 0 0\nrequest b -\n", "request a -\n",
                     "".join("request " + name + " 0 0\n" for name in "abcdef")):
            self.part_bad(head + text, "requests")

    def test_as_large_as_can_be(self):
        text = "post 0 9 9 9 9 9\n"
        text += "".join("post " + " ".join("0" * 6) + "\n" for _ in range(5))
        text += "".join("request " + name * 8 + " 9 - - - - -\n" for name in "abcde")
        self.assertEqual(read_system(text).posts, 6)
        self.assertEqual(len(read_system(text).names), 5)

    def test_new_objects(self):
        text = system_text(rent())
        read = read_system(text)
        read.requests.clear()
        self.assertEqual(read, rent())
        self.assertIsNot(read_system(text), read)


class ReadMachineTest(ReadingTest):
    def test_known(self):
        self.assertEqual(read_machine("state day:0 over:0\n"), free_machine(rent()))
        self.assertEqual(read_machine("state day:0 over:1\nstate day:2\nstate day:2 over:0\n"), line())

    def test_there_and_back(self):
        chance = random.Random(621)
        for _ in range(200):
            machine = made_machine(chance, made_system(chance, 1, chance.randint(1, 5)))
            read = read_machine(machine_text(machine))
            self.assertIs(type(read), Machine)
            self.assertEqual(read, machine)
            self.assertEqual(machine_text(read), machine_text(machine))

    def test_any_number_of_names(self):
        names = [a + b for a in "abcdef" for b in "uvwxyz"]
        machine = Machine(({name: 0 for name in names},))
        self.assertEqual(read_machine(machine_text(machine)), machine)

    def test_no_string(self):
        for thing in is_no_string():
            self.line_wrong(read_machine, thing, 0)

    def test_a_line_that_has_not_the_form(self):
        lines = ["state day:0 over:1", "state day:2", "state day:2 over:0"]
        wrong = [
            "", " ", "state", "state ", "state  a:0", "state a:0 ", " state a:0", "state a:0  b:0", "states a:0", "a:0",
            "State a:0", "state\ta:0", "state a:0\r", "state a:0\tb:0", "state a 0", "state a", "state 0", "state a:",
            "state :0", "state :", "state a::0", "state a:0:0", "state a: 0", "state a :0", "state a:-", "state 0:a",
            "state a:0,b:0", "state a:b", "state a=0", "post 0", "request a 0", "state -", "state a:0 -",
            "state a:0 a:0", "state b:0 a:0", "state a:0 c:0 b:0", "state a:0 b:0 b:1", "state aa:0 a:0",
        ]
        wrong += ["state a:" + word for word in NO_NUMBERS] + ["state a:0 b:" + word for word in NO_NUMBERS]
        wrong += ["state " + word + ":0" for word in NO_NAMES] + ["state a:0 " + word + ":0" for word in NO_NAMES]
        self.each_line_wrong(read_machine, lines, wrong)

    def test_names_ascend_in_each_line_alone(self):
        self.assertEqual(read_machine("state b:1\nstate a:0\n"), Machine(({"b": 1}, {"a": 0})))

    def test_behind_the_last_line_feed(self):
        self.line_wrong(read_machine, "state a:0", 1)
        self.line_wrong(read_machine, "state a:0\nstate a:0", 2)
        self.line_wrong(read_machine, "state a:0\n ", 2)
        self.line_wrong(read_machine, "state a:7\n-", 2)
        self.line_wrong(read_machine, "\nstate a:0", 1)
        self.line_wrong(read_machine, "\n", 1)

    def test_of_several_wrong_lines_the_first_one_counts(self):
        self.line_wrong(read_machine, "state a:0\nstate\nstate b:0 a:0\nstate a:00", 2)

    def test_bad_machine(self):
        for text in ("", "state a:1\n", "state a:0\nstate a:2\n", "state a:999999999\n", "state a:0\n" * 5,
                     "state a:0\nstate a:1 b:4\n"):
            with self.assertRaises(BadMachine):
                read_machine(text)
        self.assertEqual(read_machine("state a:3\n" * 4).states, 4)


class ReadViewTest(unittest.TestCase):
    VIEW = "0 1 0,2 day"

    def error(self, kind, *case):
        with self.assertRaises(kind) as caught:
            read_view(*case)
        return caught.exception

    def test_there_and_back(self):
        for system, machine, mode in made(622, 40):
            for view in walked(system, machine, mode, 60):
                read = read_view(system, machine, mode, view_text(view))
                self.assertEqual(read, view)
                self.assertTrue(type(read) is tuple and type(read[2]) is tuple)

    def test_views_that_never_come(self):
        self.assertEqual(read_view(rent(), line(), "free", "1 0 0,2 -"), (1, 0, (0, 2), None))
        self.assertEqual(read_view(rent(), line(), "true", "2 1 0,0 over"), (2, 1, (0, 0), "over"))

    def test_no_string(self):
        for thing in is_no_string():
            self.assertEqual(self.error(BadText, rent(), line(), "free", thing).line, 0)

    def test_no_form(self):
        read_view(rent(), line(), "free", self.VIEW)
        wrong = [
            "", " ", "\n", "0 1 0,2", "0 1 0,2 ", "0 1 0,2 day ", " 0 1 0,2 day", "0  1 0,2 day", "0 1 0,2  day",
            "0 1 0, 2 day", "0 1 0,,2 day", "0 1 ,0,2 day", "0 1 0,2, day", "0 1 , day", "0 1 0;2 day", "0,1 0,2 day",
            "0 1 0,2 day\n", "0 1 0,2 day\n0 1 0,2 day", "\n0 1 0,2 day", "0 1 0,2\nday", "0 1 0,2 -\n", "0 1 - day",
            "- 1 0,2 day", "0 - 0,2 day", "0 1 0,- day", "0 1 0,2 day over", "0 1 (0,2) day", "0 1 0,2 day\r",
            "0\t1 0,2 day", "0 1 0,2 None", "(0, 1, (0, 2), None)", "0|1|0,2|day", "0 1 2 0,2 day",
        ]
        for word in NO_NUMBERS:
            wrong += [word + " 1 0,2 day", "0 " + word + " 0,2 day", "0 1 0," + word + " day", "0 1 " + word + ",2 day"]
        wrong += ["0 1 0,2 " + word for word in NO_NAMES if word != "-"]
        for text in wrong:
            self.assertEqual(self.error(BadText, rent(), line(), "free", text).line, 1, text)

    def test_no_view(self):
        for text in (
            "3 1 0,2 day", "0 2 0,2 day", "0 1 0,3 day", "0 1 2,1 day", "0 1 1,1 day", "0 1 0 day", "0 1 0,2,0 day",
            "0 1 0,2 night", "1 1 0,2 over", "999999999 1 0,2 day", "0 999999999 0,2 day", "0 1 0,999999999 day",
            "4 0 0,2 -",
        ):
            for mode in ("true", "free"):
                self.error(BadView, rent(), line(), mode, text)
        self.error(BadView, rent(), line(), "none", self.VIEW)
        self.assertEqual(read_view(rent(), line(), "none", "0 1 0,2 -"), (0, 1, (0, 2), None))

    def test_errors_in_their_order(self):
        self.assertEqual(self.error(Unsuited, rent(), STRANGE, "no", None).name, "mist")
        for thing in objects() + NO_MODES:
            self.error(BadMode, rent(), line(), thing, None)
            self.error(BadMode, rent(), line(), thing, "")
        for mode in MODES:
            self.assertEqual(self.error(BadText, rent(), line(), mode, GREAT).line, 0)
            self.assertEqual(self.error(BadText, rent(), line(), mode, "9 9 0,9 da y").line, 1)
            self.error(BadView, rent(), line(), mode, "9 9 0,9 over")


if __name__ == "__main__":
    unittest.main()
