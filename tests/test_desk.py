import random
import unittest

from helpers import GREAT, MODES, line, objects, rent, stall
from hintslie.builds import renting, rooms
from hintslie.desk import Desk
from hintslie.errors import (
    BadAsk, BadFraction, BadMachine, BadMode, BadPost, BadStyle, BadSystem, BadText, HintError, NoLine, NoMatch, NoName,
    NothingDone, NotNow, TooMany, Unsuited,
)
from hintslie.machines import free_machine
from hintslie.matches import Match
from hintslie.reading import read_machine, read_system
from hintslie.shares import least_charge, least_share
from hintslie.styles import style_share
from hintslie.systems import System
from hintslie.tables import kept
from hintslie.texts import machine_text, system_text, view_text
from test_styles import STYLES
from test_views import JUST_TOO_MANY

RENT = "post 0 2|post 0 0|request day 1 0|request over 0 -|"
FREE = "state day:0 over:0|"
LINE = "state day:0 over:1|state day:2|state day:2 over:0|"
SETUP = ["system rent " + RENT, "machine free " + FREE, "machine line " + LINE]
NO_NUMBERS = ["", "00", "01", "-1", "+1", "1.0", "x", "1234567890", "1_0", "--", "1\r"]
NO_NAMES = ["", "abcdefghi", "Rent", "r1", "1", "rent:", "r-t", "rent\r"]


def lines_text(text):
    return text.replace("\n", "|")


def answer(told):
    return "none" if told is None else "%d/%d" % told


def number_pair(word):
    top, bottom = word.split("/")
    return int(top), int(bottom)


class Replay:
    """What a desk has to tell: all lines done are done anew for each line, and to undo is to forget the last one."""

    def __init__(self):
        self.lines = []

    def tell(self, told):
        if told == "undo":
            if not self.lines:
                raise NothingDone()
            self.lines.pop()
            return "ok"
        self.systems, self.machines, self.match = {}, {}, None
        for one in self.lines:
            self.do(one)
        result = self.do(told)
        if told.split(" ")[0] in ("system", "machine", "drop", "begin", "ask", "serve"):
            self.lines.append(told)
        return result

    def do(self, told):
        word, *rest = told.split(" ")
        return getattr(self, word)(*rest)

    def system(self, name, *text):
        self.systems[name] = read_system(" ".join(text).replace("|", "\n"))
        return "ok"

    def machine(self, name, *text):
        self.machines[name] = read_machine(" ".join(text).replace("|", "\n"))
        return "ok"

    def drop(self, name):
        if name not in {**self.systems, **self.machines}:
            raise NoName(name)
        self.systems.pop(name, None)
        self.machines.pop(name, None)
        return "ok"

    def named(self, system, machine):
        for name, kept_ones in ((system, self.systems), (machine, self.machines)):
            if name not in kept_ones:
                raise NoName(name)
        return self.systems[system], self.machines[machine]

    def begin(self, system, machine, mode):
        self.match = Match(*self.named(system, machine), mode)
        return "ok"

    def going(self):
        if self.match is None:
            raise NoMatch()
        return self.match

    def ask(self, request, hint):
        self.going().ask((request, None if hint == "-" else hint))
        return "ok"

    def serve(self, post):
        self.going().answer(int(post))
        return "ok"

    def look(self):
        if self.match is None:
            return "none"
        text = view_text(self.match.view)
        if self.match.asked:
            text += " ? " + self.match.asked[0] + " " + (self.match.asked[1] or "-")
        return text

    def sums(self):
        match = self.going()
        return "%d %d %d %d" % (match.rounds, match.paid, match.wisest, match.lies)

    def share(self, system, machine, mode, charge):
        return answer(least_share(*self.named(system, machine), mode, number_pair(charge)))

    def charge(self, system, machine, share):
        return answer(least_charge(*self.named(system, machine), number_pair(share)))

    def kept(self, system, machine, mode, share, charge):
        told = kept(*self.named(system, machine), mode, number_pair(share), number_pair(charge))
        return "yes" if told else "no"

    def style(self, system, machine, mode, style, charge):
        return answer(style_share(*self.named(system, machine), mode, style, number_pair(charge)))

    def names(self):
        return " ".join(sorted(self.systems)) or "none"


def outcome(action, told):
    """What a line does: its answer, or the error with what it keeps."""
    try:
        return action(told)
    except HintError as error:
        return type(error), vars(error)


def begun(*more):
    """A desk with rent, free and line, at which these lines were told."""
    desk = Desk()
    for told in SETUP + list(more):
        desk.tell(told)
    return desk


class LinesTest(unittest.TestCase):
    def test_an_empty_desk(self):
        desk = Desk()
        self.assertEqual(desk.tell("names"), "none")
        self.assertEqual(desk.tell("look"), "none")
        self.assertEqual(desk.undoable(), 0)
        for told in ("sums", "ask day over", "serve 0"):
            with self.assertRaises(NoMatch):
                desk.tell(told)
        with self.assertRaises(NothingDone):
            desk.tell("undo")

    def test_system_and_machine(self):
        desk = Desk()
        self.assertEqual(desk.tell("system rent " + RENT), "ok")
        self.assertEqual(desk.tell("names"), "rent")
        self.assertEqual(desk.tell("machine free " + FREE), "ok")
        self.assertEqual(desk.tell("names"), "rent")
        self.assertEqual(desk.tell("share rent free none 0/1"), "3/2")
        # Systems and machines are kept apart.
        self.assertEqual(desk.tell("machine rent state day:0|"), "ok")
        self.assertEqual(desk.tell("share rent rent none 0/1"), "0/1")
        self.assertEqual(desk.tell("system free " + lines_text(system_text(renting(3)))), "ok")
        self.assertEqual(desk.tell("share free free none 0/1"), "5/3")
        self.assertEqual(desk.tell("names"), "free rent")
        # In the place of an elder one.
        self.assertEqual(desk.tell("system rent " + lines_text(system_text(renting(4)))), "ok")
        self.assertEqual(desk.tell("share rent free none 0/1"), "7/4")
        self.assertEqual(desk.tell("machine free state over:0|"), "ok")
        self.assertEqual(desk.tell("share rent free none 0/1"), "0/1")
        self.assertEqual(desk.tell("names"), "free rent")

    def test_names(self):
        desk = Desk()
        for name in ("b", "zzzzzzzz", "abc", "ab", "a"):
            self.assertEqual(desk.tell("system " + name + " " + RENT), "ok")
            desk.tell("machine m" + name[:7] + " " + FREE)
        self.assertEqual(desk.tell("names"), "a ab abc b zzzzzzzz")
        for name in ("ab", "zzzzzzzz"):
            desk.tell("drop " + name)
        self.assertEqual(desk.tell("names"), "a abc b")

    def test_drop(self):
        desk = begun("machine rent " + FREE, "system line " + RENT)
        self.assertEqual(desk.tell("drop rent"), "ok")
        self.assertEqual(desk.tell("names"), "line")
        for told in ("share rent free none 0/1", "share line rent none 0/1"):
            with self.assertRaises(NoName) as caught:
                desk.tell(told)
            self.assertEqual(caught.exception.name, "rent")
        self.assertEqual(desk.tell("share line line none 0/1"), "3/2")
        # Where only one of both is there.
        self.assertEqual(desk.tell("drop free"), "ok")
        self.assertEqual(desk.tell("system free " + RENT), "ok")
        self.assertEqual(desk.tell("drop free"), "ok")
        with self.assertRaises(NoName) as caught:
            desk.tell("drop free")
        self.assertEqual(caught.exception.name, "free")
        self.assertEqual(desk.tell("drop line"), "ok")
        self.assertEqual(desk.tell("names"), "none")

    def test_match(self):
        desk = begun()
        self.assertEqual(desk.tell("begin rent line free"), "ok")
        self.assertEqual(desk.tell("look"), "0 0 0,2 -")
        self.assertEqual(desk.tell("sums"), "0 0 0 0")
        self.assertEqual(desk.tell("ask day over"), "ok")
        self.assertEqual(desk.tell("look"), "0 0 0,2 - ? day over")
        self.assertEqual(desk.tell("sums"), "0 0 0 0")
        self.assertEqual(desk.tell("serve 1"), "ok")
        self.assertEqual(desk.tell("look"), "0 1 0,1 over")
        self.assertEqual(desk.tell("sums"), "1 2 1 0")
        desk.tell("ask day day")
        self.assertEqual(desk.tell("look"), "0 1 0,1 over ? day day")
        desk.tell("serve 0")
        self.assertEqual(desk.tell("sums"), "2 3 2 1")
        desk.tell("begin rent free none")
        self.assertEqual(desk.tell("look"), "0 0 0,2 -")
        desk.tell("ask over -")
        self.assertEqual(desk.tell("look"), "0 0 0,2 - ? over -")

    def test_a_match_goes_on_with_what_it_began(self):
        for more in (["drop rent", "drop line"], ["system rent post 0|request day 9|", "machine line state over:0|"]):
            desk = begun("begin rent line free", "ask day over", "serve 1", *more)
            self.assertEqual(desk.tell("look"), "0 1 0,1 over")
            self.assertEqual(desk.tell("ask over day"), "ok")
            self.assertEqual(desk.tell("serve 0"), "ok")
            self.assertEqual(desk.tell("look"), "1 0 0,2 day")
            self.assertEqual(desk.tell("sums"), "2 2 1 0")
            with self.assertRaises(BadAsk):
                desk.tell("ask over day")

    def test_questions(self):
        desk = begun()
        desk.tell("system stall " + lines_text(system_text(stall())))
        desk.tell("machine all " + lines_text(machine_text(free_machine(stall()))))
        for mode in MODES:
            for charge in ((0, 1), (1, 2), (7, 3)):
                self.assertEqual(desk.tell("share stall all %s %d/%d" % (mode, *charge)),
                                 answer(least_share(stall(), free_machine(stall()), mode, charge)))
                for style in STYLES:
                    self.assertEqual(desk.tell("style stall all %s %s %d/%d" % (mode, style, *charge)),
                                     answer(style_share(stall(), free_machine(stall()), mode, style, charge)))
                for share in ((1, 1), (3, 2), (2, 1)):
                    right = kept(rent(), line(), mode, share, charge)
                    self.assertEqual(desk.tell("kept rent line %s %d/%d %d/%d" % (mode, *share, *charge)),
                                     "yes" if right else "no")
        self.assertEqual(desk.tell("kept rent free none 3/2 0/1"), "yes")
        self.assertEqual(desk.tell("kept rent free none 1/1 0/1"), "no")
        self.assertEqual(desk.tell("charge rent free 5/4"), "3/4")
        self.assertEqual(desk.tell("charge rent free 1/2"), "none")
        self.assertEqual(desk.tell("charge rent free 99/1"), "0/1")
        self.assertEqual(desk.tell("style rent free none near 0/1"), "none")
        self.assertEqual(desk.tell("style rent free true trust 0/1"),
                         answer(style_share(rent(), free_machine(rent()), "true", "trust", (0, 1))))
        self.assertEqual(desk.tell("share rent free none 99999/100000"), "3/2")
        self.assertEqual(desk.undoable(), 5)

    def test_text_of_nothing(self):
        desk = begun()
        with self.assertRaises(BadSystem) as caught:
            desk.tell("system rent ")
        self.assertEqual(caught.exception.part, "moves")
        with self.assertRaises(BadMachine):
            desk.tell("machine rent ")
        for told in ("system rent", "machine free", "system", "machine", "system ", "machine "):
            with self.assertRaises(NoLine):
                desk.tell(told)
        self.assertEqual(desk.undoable(), 3)

    def test_other_systems(self):
        desk = Desk()
        for name, system in (("pages", rooms(1, 3)), ("more", rooms(2, 3)), ("stall", stall())):
            desk.tell("system " + name + " " + lines_text(system_text(system)))
            desk.tell("machine " + name + " " + lines_text(machine_text(free_machine(system))))
            self.assertEqual(desk.tell("share %s %s true 1/1" % (name, name)),
                             answer(least_share(system, free_machine(system), "true", (1, 1))))


class UndoTest(unittest.TestCase):
    STEPS = SETUP + [
        "system rent " + RENT, "begin rent line free", "ask day over", "serve 1", "ask over day",
        "begin rent free none", "ask over -", "drop rent", "serve 0", "drop line", "machine free state over:0|",
        "begin rent free true",
    ]

    def test_down_to_the_beginning(self):
        desk, replay = Desk(), Replay()
        seen = []
        questions = ("look", "sums", "names", "share rent free none 0/1", "share rent line none 0/1", "ask day over")
        for told in self.STEPS:
            seen.append([outcome(desk.would, one) for one in questions])
            self.assertEqual(seen[-1], [outcome(lambda one: Replay.tell(self.copy(replay), one), one)
                                        for one in questions])
            self.assertEqual(outcome(desk.tell, told), outcome(replay.tell, told))
            self.assertEqual(desk.undoable(), len(replay.lines))
        self.assertEqual(len(replay.lines), len(self.STEPS) - 1)
        # The last line is refused: rent has been dropped.
        seen.pop()
        while desk.undoable() > 0:
            self.assertEqual(desk.tell("undo"), "ok")
            self.assertEqual([outcome(desk.would, one) for one in questions], seen.pop())
        self.assertEqual(seen, [])
        with self.assertRaises(NothingDone):
            desk.tell("undo")

    def copy(self, replay):
        other = Replay()
        other.lines = list(replay.lines)
        return other

    def test_begin_brings_the_elder_match_back(self):
        desk = begun("begin rent line free", "ask day over", "serve 1", "ask over day")
        look = "0 1 0,1 over ? over day"
        self.assertEqual(desk.tell("look"), look)
        for more in ([], ["ask day -"], ["ask day -", "serve 1"], ["ask day -", "serve 1", "begin rent line true"]):
            desk.tell("begin rent free none")
            for told in more:
                desk.tell(told)
            self.assertNotEqual(desk.tell("look"), look)
            for _ in range(len(more) + 1):
                desk.tell("undo")
            self.assertEqual(desk.tell("look"), look)
            self.assertEqual(desk.tell("sums"), "1 2 1 0")
        self.assertEqual(desk.tell("serve 0"), "ok")
        self.assertEqual(desk.tell("sums"), "2 2 1 0")

    def test_refused_lines_and_questions_are_not_counted(self):
        desk = begun("begin rent line free", "ask day over")
        many = desk.undoable()
        self.assertEqual(many, 5)
        for told in ("look", "sums", "names", "share rent free none 0/1", "charge rent free 5/4",
                     "style rent free none near 0/1", "kept rent free none 1/1 0/1", "ask day over", "serve 7",
                     "begin no no no", "drop no", "nonsense", "system x post", "machine x state"):
            outcome(desk.tell, told)
            self.assertEqual(desk.undoable(), many)
        self.assertEqual(desk.tell("undo"), "ok")
        self.assertEqual(desk.tell("look"), "0 0 0,2 -")
        self.assertEqual(desk.undoable(), many - 1)

    def test_lines_told_anew_behind_an_undo(self):
        desk = begun("begin rent line free", "ask day over", "serve 1")
        desk.tell("undo")
        self.assertEqual(desk.tell("serve 0"), "ok")
        self.assertEqual(desk.tell("sums"), "1 1 1 0")
        desk.tell("undo")
        desk.tell("undo")
        self.assertEqual(desk.tell("ask over day"), "ok")
        self.assertEqual(desk.tell("look"), "0 0 0,2 - ? over day")
        self.assertEqual(desk.undoable(), 5)
        for _ in range(5):
            desk.tell("undo")
        self.assertEqual((desk.tell("names"), desk.tell("look"), desk.undoable()), ("none", "none", 0))
        for told in SETUP:
            desk.tell(told)
        self.assertEqual(desk.tell("share rent free none 0/1"), "3/2")

    def test_elder_ones_kept_under_the_same_name(self):
        desk = begun()
        desk.tell("system rent " + lines_text(system_text(renting(3))))
        desk.tell("machine free state over:0|")
        desk.tell("drop free")
        desk.tell("undo")
        self.assertEqual(desk.tell("share rent free none 0/1"), "0/1")
        desk.tell("undo")
        self.assertEqual(desk.tell("share rent free none 0/1"), "5/3")
        desk.tell("undo")
        self.assertEqual(desk.tell("share rent free none 0/1"), "3/2")


class DrawnTest(unittest.TestCase):
    """Desks beside those that do all lines anew."""

    def lines(self, chance):
        name = lambda: chance.choice(["rent", "free", "line", "line", "x"])
        mode = lambda: chance.choice(MODES + ("no",))
        share = lambda: chance.choice(["3/2", "1/1", "2/4", "5/4", "0/1", "1/0"])
        charge = lambda: chance.choice(["0/1", "1/2", "2/2", "9/1"])
        system = lambda: chance.choice([RENT, "post 0|request day 1|request over 0|", "post 0|", "post|", "", "post 0"])
        machine = lambda: chance.choice([FREE, LINE, "state day:1|", "state x:0|", "", "state day|", "state day:0"])
        request = lambda: chance.choice(["day", "over", "over", "day", "night"])
        return chance.choice([
            lambda: "system " + name() + " " + system(), lambda: "machine " + name() + " " + machine(),
            lambda: "drop " + name(), lambda: "begin rent " + chance.choice(["free", "line"]) + " " + mode(),
            lambda: "begin " + name() + " " + name() + " " + mode(),
            lambda: "ask " + request() + " " + chance.choice(["-", "day", "over"]),
            lambda: "ask " + request() + " " + chance.choice(["-", "day", "over"]),
            lambda: "serve " + chance.choice("012"), lambda: "serve " + chance.choice("01"), lambda: "look",
            lambda: "sums", lambda: "names", lambda: "undo", lambda: "undo",
            lambda: "share " + name() + " " + name() + " " + mode() + " " + charge(),
            lambda: "charge rent " + name() + " " + share(),
            lambda: "kept rent " + name() + " " + mode() + " " + share() + " " + charge(),
            lambda: "style rent " + name() + " " + mode() + " " + chance.choice(STYLES + ("no",)) + " " + charge(),
        ])()

    def test_many_lines(self):
        done, refused = {}, {}
        for seed in range(150):
            chance = random.Random(seed)
            desk, replay, other = Desk(), Replay(), Desk()
            for told in SETUP * chance.randint(0, 1):
                desk.tell(told), replay.tell(told), other.tell(told)
            for _ in range(60):
                told = self.lines(chance)
                right = outcome(replay.tell, told)
                would = self.lines(chance)
                self.assertEqual(outcome(desk.would, told), right, told)
                outcome(desk.would, would)
                self.assertEqual(outcome(desk.tell, told), right, told)
                self.assertEqual(outcome(other.tell, told), right, told)
                self.assertEqual(desk.undoable(), len(replay.lines))
                kinds = done if isinstance(right, str) else refused
                word = told.split(" ")[0] if isinstance(right, str) else right[0]
                kinds[word] = kinds.get(word, 0) + 1
                self.assertIs(type(desk.undoable()), int)
        self.assertEqual(len(done), 14)
        self.assertGreater(min(done.values()), 8)
        self.assertGreater(len(refused), 11)


class WouldTest(unittest.TestCase):
    LINES = [
        "system new " + RENT, "system rent post 0|request day 1|", "machine new " + FREE, "drop rent", "drop free",
        "begin rent line true", "ask over day", "ask day over", "serve 0", "serve 1", "look", "sums", "names", "undo",
        "share rent free none 0/1", "charge rent free 5/4", "kept rent free none 3/2 0/1",
        "style rent line true near 0/1", "system new ", "machine new state|", "drop no", "begin rent no free",
        "begin rent free no", "ask night -", "serve 9", "share rent free none 2/2", "nonsense", "", None, 7,
    ]

    def desks(self):
        return [
            Desk(), begun(), begun("begin rent line free"), begun("begin rent line free", "ask over day"),
            begun("begin rent line free", "ask over day", "serve 0", "begin rent free none"),
            begun("begin rent line free", "ask over day", "serve 0", "ask day over", "drop rent"),
        ]

    def test_it_answers_and_refuses_as_the_line_would(self):
        for told in self.LINES:
            for one, other in zip(self.desks(), self.desks()):
                self.assertEqual(outcome(one.would, told), outcome(other.tell, told), told)

    def test_the_desk_stays(self):
        for number in range(len(self.desks())):
            desk = self.desks()[number]
            for told in self.LINES * 2:
                outcome(desk.would, told)
            other = self.desks()[number]
            while True:
                for told in ("look", "sums", "names"):
                    self.assertEqual(outcome(desk.tell, told), outcome(other.tell, told))
                self.assertEqual(desk.undoable(), other.undoable())
                if other.undoable() == 0:
                    break
                self.assertEqual(desk.tell("undo"), other.tell("undo"))

    def test_undo_of_a_step(self):
        desk = begun("begin rent line free", "ask day over", "serve 1")
        for _ in range(3):
            self.assertEqual(desk.would("undo"), "ok")
        self.assertEqual(desk.tell("look"), "0 1 0,1 over")
        self.assertEqual(desk.tell("undo"), "ok")
        self.assertEqual(desk.tell("look"), "0 0 0,2 - ? day over")


class ErrorsTest(unittest.TestCase):
    def refused(self, desk, told, kind, **keeps):
        before = [outcome(desk.would, one) for one in ("look", "sums", "names")], desk.undoable()
        for action in (desk.would, desk.tell):
            with self.assertRaises(kind, msg=told) as caught:
                action(told)
            self.assertEqual(vars(caught.exception), keeps, told)
        self.assertEqual(([outcome(desk.would, one) for one in ("look", "sums", "names")], desk.undoable()), before)

    def test_no_line(self):
        desk = begun("begin rent line free", "ask day over")
        lines = [
            "", " ", "  ", "\n", "look ", " look", "look look", "Look", "LOOK", "lookx", "look\n", "\nlook", "look 0",
            "sums ", "sums 1", "names ", "names rent", "undo ", "undo 1", "undo undo", "share", "drop", "drop ",
            "drop rent free", "drop  rent", "drop rent ", " drop rent", "begin", "begin rent", "begin rent line",
            "begin rent line free free", "begin rent  line free", "begin rent line free ", "begin rent line ",
            "ask", "ask day", "ask day ", "ask day over over", "ask  day over", "ask day  over", "ask day over ",
            "ask - over", "ask day --", "ask day 0", "serve", "serve ", "serve 0 ", "serve  0", "serve 0 0", "serve -",
            "serve day", "share rent free none", "share rent free none 0/1 0/1", "share rent free none 0",
            "share rent free none 0/1/1", "share rent free none /", "share rent free none /1",
            "share rent free none 0/",
            "share rent free none 0 / 1", "share rent free none -", "share rent free 0/1", "share rent free  none 0/1",
            "charge rent free", "charge rent free 1", "charge rent free 1/1 0/1", "charge rent free none 1/1",
            "kept rent free none 1/1", "kept rent free none 1/1 0", "kept rent free none 1 0/1",
            "kept rent free 1/1 0/1",
            "style rent free none near", "style rent free none 0/1", "style rent free none near 0", "look|", "tell",
            "would look", "undoable", "history", "help", "post 0", "state day:0", "system\trent " + RENT, "sums\t",
            "system rent " + RENT + "\n", "system rent post 0\npost 0", "machine free\n" + FREE, "system  rent " + RENT,
            " system rent " + RENT, "machine  free " + FREE, "systems rent " + RENT, "look\r",
        ]
        for word in NO_NUMBERS:
            lines += ["serve " + word, "share rent free none " + word + "/1", "share rent free none 1/" + word]
            lines += ["charge rent free " + word + "/1", "kept rent free none 1/1 1/" + word,
                      "kept rent free none " + word + "/1 1/1", "style rent free none near 1/" + word]
        for word in NO_NAMES:
            lines += ["drop " + word, "begin " + word + " line free", "begin rent " + word + " free",
                      "begin rent line " + word, "ask " + word + " over", "ask day " + word,
                      "share " + word + " free none 0/1", "share rent " + word + " none 0/1",
                      "share rent free " + word + " 0/1", "charge " + word + " free 1/1",
                      "charge rent " + word + " 1/1",
                      "kept " + word + " free none 1/1 0/1", "style rent free none " + word + " 0/1",
                      "style rent free " + word + " near 0/1", "system " + word + " " + RENT,
                      "machine " + word + " " + FREE]
        for told in lines:
            self.refused(desk, told, NoLine)
        for thing in objects():
            if not isinstance(thing, str):
                self.refused(desk, thing, NoLine)
        for thing in (b"look", ["look"], ("look",), GREAT, "a", "day"):
            self.refused(desk, thing, NoLine)

    def test_bad_text(self):
        desk = begun("begin rent line free")
        for text, number in (
            ("post", 1), ("post|", 1), ("post 0|post 0", 2), ("post 0|request day 1| ", 3), (" post 0|", 1),
            ("post 0 |request day 1|", 1), ("post 0||request day 1|", 2), ("|", 1), ("post 0|request day 1|post 0|", 3),
            ("post 0|request b 1|request a 1|", 3), ("post  0|", 1), ("x", 1), (" ", 1), ("post 0", 1),
        ):
            self.refused(desk, "system new " + text, BadText, line=number)
        for text, number in (("state", 1), ("state|", 1), ("state day:0", 1), ("state day:0|state", 2), ("|", 1),
                             ("state day:0 day:0|", 1), ("state over:0 day:0|", 1), (" state day:0|", 1)):
            self.refused(desk, "machine new " + text, BadText, line=number)

    def test_bad_system_and_machine(self):
        desk = begun("begin rent line free")
        for text, part in (("", "moves"), ("post 1|request day 0|", "moves"), ("post 0|", "requests"),
                           ("post 0|request day 10|", "requests"), ("post 0 0|post 0|", "moves")):
            self.refused(desk, "system rent " + text, BadSystem, part=part)
        for text in ("", "state day:1|", "state a:0|" * 5):
            self.refused(desk, "machine line " + text, BadMachine)
        self.assertEqual(desk.tell("share rent line none 0/1"), answer(least_share(rent(), line(), "none", (0, 1))))

    def test_bad_fraction(self):
        desk = begun("begin rent line free")
        for word in ("2/2", "0/2", "1/0", "0/0", "999999999/3", "4/6"):
            self.refused(desk, "share rent free none " + word, BadFraction)
            self.refused(desk, "charge rent free " + word, BadFraction)
            self.refused(desk, "kept rent free none " + word + " 0/1", BadFraction)
            self.refused(desk, "kept rent free none 3/2 " + word, BadFraction)
            self.refused(desk, "style rent free none near " + word, BadFraction)

    def test_no_name(self):
        desk = begun("begin rent line free", "system only " + RENT)
        for told in ("begin {} {} free", "share {} {} none 0/1", "charge {} {} 1/1", "kept {} {} none 1/1 0/1",
                     "style {} {} none near 0/1"):
            self.refused(desk, told.format("no", "none"), NoName, name="no")
            self.refused(desk, told.format("no", "free"), NoName, name="no")
            self.refused(desk, told.format("rent", "none"), NoName, name="none")
            # A machine of this name is no system, and a system no machine.
            self.refused(desk, told.format("free", "free"), NoName, name="free")
            self.refused(desk, told.format("rent", "only"), NoName, name="only")
        self.refused(desk, "drop no", NoName, name="no")
        # Ahead of what the functions raise.
        self.refused(desk, "begin rent no no", NoName, name="no")
        self.refused(desk, "share no free no 0/1", NoName, name="no")
        self.refused(desk, "style rent no none no 0/1", NoName, name="no")

    def test_no_match(self):
        desk = begun()
        for told in ("ask day over", "ask night -", "serve 0", "serve 9", "sums"):
            self.refused(desk, told, NoMatch)
        self.assertEqual(desk.tell("look"), "none")

    def test_what_functions_and_methods_raise(self):
        desk = begun("machine odd state mist:0 night:0 zoo:0|", "begin rent line free")
        for told in ("begin rent odd no", "share rent odd no 2/2", "kept rent odd no 2/2 2/2",
                     "style rent odd no no 2/2", "charge rent odd 2/2"):
            self.refused(desk, told, Unsuited, name="mist")
        for told in ("begin rent line no", "share rent line no 0/1", "kept rent line no 1/1 0/1",
                     "style rent line no no 0/1", "begin rent line freely", "share rent line nones 0/1"):
            self.refused(desk, told, BadMode)
        self.refused(desk, "style rent line none no 0/1", BadStyle)
        self.refused(desk, "style rent line none nearer 0/1", BadStyle)
        self.refused(desk, "serve 0", NotNow)
        self.refused(desk, "ask night over", BadAsk)
        self.refused(desk, "ask day -", BadAsk)
        desk.tell("ask over day")
        self.refused(desk, "ask over day", NotNow)
        self.refused(desk, "ask night over", NotNow)
        for post in ("1", "2", "999999999"):
            self.refused(desk, "serve " + post, BadPost, post=int(post))
        desk.tell("serve 0")
        self.refused(desk, "serve 1", NotNow)
        self.refused(desk, "ask over day", BadAsk)

    def test_too_many(self):
        for mode, moves, requests in JUST_TOO_MANY:
            system = System(moves, requests)
            desk = begun("system large " + lines_text(system_text(system)),
                         "machine all " + lines_text(machine_text(free_machine(system))))
            for told in ("share large all %s 0/1", "kept large all %s 1/1 0/1", "style large all %s near 0/1"):
                self.refused(desk, told % mode, TooMany, most=1000)
            if mode == "free":
                self.refused(desk, "charge large all 1/1", TooMany, most=1000)
            self.assertEqual(desk.tell("begin large all " + mode), "ok")

    def test_two_desks_know_nothing_of_each_other(self):
        one, other = Desk(), Desk()
        one.tell(SETUP[0])
        self.assertEqual(other.tell("names"), "none")
        self.assertEqual(other.undoable(), 0)
        for told in SETUP:
            other.tell(told)
        other.tell("begin rent line free")
        other.tell("ask day over")
        self.assertEqual(one.tell("look"), "none")
        self.assertEqual(one.undoable(), 1)
        one.tell("undo")
        self.assertEqual((one.tell("names"), other.tell("names")), ("none", "rent"))
        self.assertEqual(other.tell("look"), "0 0 0,2 - ? day over")

    def test_kinds_of_answers(self):
        desk = begun("begin rent line free")
        for told in ("look", "sums", "names", "share rent free none 0/1", "ask day over", "undo"):
            self.assertIs(type(desk.would(told)), str)
            self.assertIs(type(desk.tell(told)), str)


if __name__ == "__main__":
    unittest.main()
