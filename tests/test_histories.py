import random
import unittest

from helpers import MODES, line, objects, rent, single, stall
from hintslie.errors import BadText, Unsuited
from hintslie.histories import history_text, read_history
from hintslie.machines import Machine, free_machine
from hintslie.matches import Match
from hintslie.systems import System
from test_matches import cases, open_match, standing
from test_reading import NO_NAMES, NO_NUMBERS
from test_views import STRANGE


def worked_out(mode, history, asked):
    text = "mode " + mode + "\n"
    for request, hint, post in history:
        text += request + " " + ("-" if hint is None else hint) + " " + format(post, "d") + "\n"
    if asked is not None:
        text += asked[0] + " " + ("-" if asked[1] is None else asked[1]) + "\n"
    return text


def all_standings(match):
    """How a copy of the match stands, and how it stands when its asks and answers are taken back one by one."""
    match = match.copy()
    found = [standing(match)]
    while match.rounds > 0 or match.asked is not None:
        match.back(1)
        found.append(standing(match))
    return found


class HistoryTextTest(unittest.TestCase):
    def test_known(self):
        match = Match(rent(), free_machine(rent()), "none")
        self.assertEqual(history_text(match), "mode none\n")
        match.ask(("day", None))
        self.assertEqual(history_text(match), "mode none\nday -\n")
        match.answer(1)
        self.assertEqual(history_text(match), "mode none\nday - 1\n")
        match.ask(("over", None))
        self.assertEqual(history_text(match), "mode none\nday - 1\nover -\n")
        match.back(2)
        self.assertEqual(history_text(match), "mode none\nday -\n")
        match = Match(rent(), line(), "free")
        match.ask(("over", "day"))
        match.answer(0)
        match.ask(("day", "over"))
        self.assertEqual(history_text(match), "mode free\nover day 0\nday over\n")

    def test_each_mode(self):
        for system, machine, _ in cases(960, 15):
            for mode in MODES:
                for many in range(8):
                    match, walk = open_match(system, machine, mode, random.Random(many), many)
                    _, asked, *_, history = walk.stands[-1]
                    self.assertEqual(history_text(match), worked_out(mode, history, asked))

    def test_the_match_stays(self):
        match, _ = open_match(rent(), line(), "free", random.Random(5), 7)
        before = all_standings(match)
        history_text(match)
        self.assertEqual(all_standings(match), before)

    def test_of_copies(self):
        match, _ = open_match(rent(), line(), "true", random.Random(6), 5)
        self.assertEqual(history_text(match.copy()), history_text(match))
        self.assertEqual(match.trying(history_text), history_text(match))


class ReadHistoryTest(unittest.TestCase):
    def test_there_and_back(self):
        for system, machine, mode in cases(970, 40):
            for many in (0, 1, 2, 7, 8):
                match, _ = open_match(system, machine, mode, random.Random(many), many)
                text = history_text(match)
                read = read_history(system, machine, text)
                self.assertIs(type(read), Match)
                self.assertEqual(history_text(read), text)
                self.assertEqual(all_standings(read), all_standings(match))
                self.assertIsNot(read_history(system, machine, text), read)

    def test_it_goes_on(self):
        read = read_history(rent(), line(), "mode free\nday over 1\nover day\n")
        self.assertEqual(read.asked, ("over", "day"))
        read.answer(0)
        self.assertEqual(read.history(), [("day", "over", 1), ("over", "day", 0)])
        self.assertEqual(history_text(read), "mode free\nday over 1\nover day 0\n")
        read.back(4)
        self.assertEqual(history_text(read), "mode free\n")

    def test_long(self):
        match, _ = open_match(stall(), free_machine(stall()), "free", random.Random(7), 601)
        read = read_history(stall(), free_machine(stall()), history_text(match))
        self.assertEqual(all_standings(read), all_standings(match))

    def wrong(self, text, number, system=None, machine=None):
        with self.assertRaises(BadText) as caught:
            read_history(system or rent(), machine or line(), text)
        self.assertEqual(caught.exception.line, number, text)

    def test_unsuited(self):
        for text in (None, "", "mode none\n", "mode\n", 7):
            with self.assertRaises(Unsuited) as caught:
                read_history(rent(), STRANGE, text)
            self.assertEqual(caught.exception.name, "mist")

    def test_no_string(self):
        for thing in objects():
            if not isinstance(thing, str):
                self.wrong(thing, 0)
        self.wrong(b"mode none\n", 0)
        self.wrong(["mode none"], 0)

    def test_no_line(self):
        for text in ("", " ", "mode none", "mode none ", "x", "day over 0", "\r"):
            self.wrong(text, 1)

    def test_the_line_of_the_mode(self):
        for first in (
            "", " ", "mode", "mode ", "mode  none", " mode none", "mode none ", "mode no", "mode None", "mode NONE",
            "Mode none", "modes none", "none", "mode none free", "mode -", "mode 0", "day over 0", "mode none\r",
            "mode\tnone", "day over", "mode day", "none mode",
        ):
            for rest in ("", "day over 0\n", "mode none\n", "x", "day over 0\nday"):
                self.wrong(first + "\n" + rest, 1)
        for mode in MODES:
            self.assertEqual(history_text(read_history(rent(), line(), "mode " + mode + "\n")), "mode " + mode + "\n")

    def test_lines_that_have_not_the_form(self):
        head = "mode free\nday over 1\n"
        wrong = [
            "", " ", "over", "over ", "over day ", " over day", "over  day", "over day  0", " over day 0",
            "over day 0 ",
            "over day 0 0", "over day 0 day", "over day -", "over day day", "over,day,0", "over day 0\r", "over\tday 0",
            "mode free", "mode", "mode free 0", "Over day 0", "over Day 0", "over - 0", "- day 0", "over day -0",
        ]
        wrong += ["over day " + word for word in NO_NUMBERS if word not in ("", "0 ")]
        wrong += ["over " + word + " 0" for word in NO_NAMES] + [word + " day 0" for word in NO_NAMES]
        for one in wrong:
            for rest in ("", "day over 0\n", "x", "\n"):
                self.wrong(head + one + "\n" + rest, 3)
            self.wrong("mode free\n" + one + "\nday over 0\n", 2)
        read_history(rent(), line(), head + "over day 0\n")

    def test_asks_in_their_turn(self):
        # Behind over the machine lets day alone, and with it the hints day and over.
        head = "mode free\nover day 0\n"
        read_history(rent(), line(), head + "day over 1\n")
        for one in ("over day 0", "over day", "day night 0", "day - 0", "night day 0", "day", "zoo zoo"):
            self.wrong(head + one + "\n", 3)
            self.wrong(head + one + "\nday over 0\n", 3)
        self.wrong("mode none\nover -\n", 2, single(), free_machine(single()))
        self.wrong("mode none\nover day 0\n", 2)
        self.wrong("mode none\nover day\n", 2)
        self.wrong("mode true\nover - 0\n", 2)
        # In the mode true a request is the one that was hinted.
        self.wrong("mode true\nday over 0\nday day 0\n", 3)
        read_history(rent(), line(), "mode free\nday over 0\nday day 0\n")

    def test_posts_in_their_turn(self):
        for post in ("2", "9", "999999999", "1"):
            self.wrong("mode free\nday over 0\nover day " + post + "\n", 3)
            self.wrong("mode free\nday over 0\nover day " + post + "\nday over 0\n", 3)
        read_history(rent(), line(), "mode free\nday over 0\nover day 0\n")

    def test_only_the_last_line_may_lack_its_post(self):
        read = read_history(rent(), line(), "mode free\nday over 0\nover day\n")
        self.assertEqual((read.rounds, read.asked), (1, ("over", "day")))
        self.wrong("mode free\nday over\nover day\n", 2)
        self.wrong("mode free\nday over\nover day 0\n", 2)
        self.wrong("mode free\nday over 0\nover day\n\n", 3)
        self.wrong("mode free\nday over\nx\n", 2)
        self.wrong("mode free\nday over\nx", 3)

    def test_behind_the_last_line_feed(self):
        self.wrong("mode free\nday over 0", 2)
        self.wrong("mode free\nday over 0\nover day 0", 3)
        self.wrong("mode free\nday over 0\nover day\n ", 4)
        self.wrong("mode free\nday over 0\n-", 3)
        self.wrong("mode none\nmode", 2)
        # Behind lines that are wrong.
        self.wrong("mode free\nday over 7\nx", 2)

    def test_of_several_wrong_lines_the_first_one_counts(self):
        self.wrong("mode free\nday over 0\nover day 5\nover over 0\n", 3)
        self.wrong("mode free\nday over 0\nday night 0\nover day 7\n", 3)

    def test_the_word_mode_in_a_later_line(self):
        self.wrong("mode free\nmode free\n", 2)
        self.wrong("mode free\nday over 0\nmode true\n", 3)
        self.wrong("mode free\nmode free 0\n", 2)
        # Where requests are called so, it is a round or an ask.
        system = System(((0,),), {"mode": (1,), "none": (2,), "free": (3,)})
        machine = free_machine(system)
        read = read_history(system, machine, "mode free\nmode none 0\nmode free\n")
        self.assertEqual(read.history(), [("mode", "none", 0)])
        self.assertEqual(read.asked, ("mode", "free"))
        read = read_history(system, machine, "mode none\nmode - 0\nnone -\n")
        self.assertEqual(read.asked, ("none", None))
        self.wrong("mode mode\nmode free\n", 1, system, machine)

    def test_what_was_passed_stays(self):
        system, machine = rent(), Machine(({"day": 0, "over": 0},))
        turns, requests = machine.turns, system.requests
        for text in ("mode free\nday over 0\n", "mode free\nday over 9\n", "mode free\n\n"):
            try:
                read_history(system, machine, text)
            except BadText:
                pass
            self.assertEqual((machine.turns, system.requests), (turns, requests))


if __name__ == "__main__":
    unittest.main()
