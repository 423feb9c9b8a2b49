"""What the document promises over the whole program (0.3, 0.4): for each function of the interface."""

import copy
import importlib
import sys
import unittest

from helpers import MODES, objects, rent, stall
from hintslie.builds import renting, rooms, rows, walkers
from hintslie.desk import Desk
from hintslie.errors import HintError
from hintslie.histories import history_text
from hintslie.knowledge import first_offsets
from hintslie.liars import liar
from hintslie.lies import counted_table
from hintslie.machines import Machine, free_machine
from hintslie.matches import Match
from hintslie.memory import memory
from hintslie.presses import press
from hintslie.rules import rule
from hintslie.styles import worst_round
from hintslie.systems import System
from hintslie.tables import table
from hintslie.texts import machine_text, system_text, view_text
from hintslie.views import asks, first_view
from hintslie.wisest import floor
from test_form import INTERFACE

KEPT, LIED, CHARGE = (2, 1), (1, 1), (1, 3)
ROW = ("day", "over", "day", "day")


def turned_about(thing):
    """The same, but the keys of each dict stand the other way about."""
    if isinstance(thing, dict):
        return {key: turned_about(thing[key]) for key in reversed(list(thing))}
    if isinstance(thing, (list, tuple)):
        return type(thing)([turned_about(item) for item in thing])
    return thing


class Arguments:
    """Right arguments for all functions; with `about` the keys of all dicts stand the other way about."""

    def __init__(self, about):
        self.put = turned_about if about else lambda thing: thing
        self.system = self.made_system(rent())
        self.machine = self.made_machine(Machine(({"day": 0, "over": 1}, {"day": 2}, {"day": 2, "over": 0})))
        self.other = self.made_system(stall())

    def made_system(self, system):
        return System(system.moves, self.put(system.requests))

    def made_machine(self, machine):
        return Machine(self.put(machine.turns))

    def match(self):
        match = Match(self.system, self.machine, "free")
        match.ask(("day", "over"))
        match.answer(1)
        match.ask(("day", "day"))
        return match

    def calls(self):
        """For each function, by its module and name, a list of rows of arguments."""
        put, system, machine, view = self.put, self.system, self.machine, first_view(self.system)
        two = (system, machine)
        ask = ("day", "over")
        found = {
            ("machines", "free_machine"): [(system,), (self.other,)],
            ("wisest", "wisest"): [(system, list(ROW)), (system, ROW), (system, [])],
            ("wisest", "floor"): [(system, list(ROW)), (system, ())],
            ("wisest", "is_floor"): [(system, list(ROW), price, floor(system, ROW)) for price in (2, 9)],
            ("knowledge", "first_offsets"): [(system,)],
            ("knowledge", "after_request"): [(system, first_offsets(system), "day")],
            ("views", "first_view"): [(system,)],
            ("builds", "renting"): [(many,) for many in range(1, 10)],
            ("builds", "rooms"): [(2, 3), (1, 1)], ("builds", "rows"): [(3,), (1,)],
            ("builds", "walkers"): [(((0, 2), (2, 0)), 1), (((0, 2, 1), (2, 0, 9), (1, 9, 0)), 2)],
            ("changes", "beside"): [(system, system)], ("changes", "folded"): [(system,), (self.other,)],
            ("changes", "times"): [(system, 3)], ("changes", "turned"): [(system, (0, 1))],
            ("changes", "without"): [(machine, "over")],
            ("texts", "system_text"): [(system,)], ("texts", "machine_text"): [(machine,)],
            ("texts", "view_text"): [(view,)],
            ("reading", "read_system"): [(system_text(system),)],
            ("reading", "read_machine"): [(machine_text(machine),)],
            ("reading", "read_view"): [(*two, "free", view_text(view))],
            ("lies", "counted_sums"): [(*two, LIED, 3), (*two, KEPT, 0)],
            ("lies", "counted_table"): [(*two, LIED, 2), (*two, (0, 1), 2)],
            ("lies", "is_counted_table"): [(*two, LIED, 2, put(counted_table(*two, LIED, 2)))],
            ("memory", "lesser_machine"): [(machine,)],
            ("histories", "history_text"): [(self.match(),)],
            ("histories", "read_history"): [(*two, history_text(self.match()))],
            ("edits", "with_request"): [(system, "new", (1, 0)), (system, "day", (9, 9))],
            ("edits", "without_request"): [(system, "day")], ("edits", "with_step"): [(system, 0, 1, 5)],
            ("edits", "both"): [(machine, machine), (machine, free_machine(system))],
            ("shares", "least_charge"): [(*two, KEPT), (*two, LIED), (*two, (0, 1))],
            ("borders", "border"): [two],
            ("styles", "style_post"): [(*two, "free", style, view, ask) for style in ("near", "trust")],
            ("styles", "style_sum"): [(self.other, free_machine(self.other), "free", "offset", (99, 1), CHARGE)],
            ("views", "asks"): [(*two, "free", view)],
            ("views", "answered"): [(*two, "free", view, ask, 1)],
            ("matches", "played"): [(*two, "free", "near", [ask, ("over", "day")])],
        }
        for mode in MODES:
            for key, more in self.calls_of_mode((*two, mode), view):
                found.setdefault(key, []).extend((*two, mode, *one) for one in more)
        return found

    def calls_of_mode(self, case, view):
        """The same of the functions that have a mode, as pairs, with the arguments behind the mode."""
        put = self.put
        terms = [(KEPT, CHARGE), (LIED, CHARGE)]
        least = ((3, 2), CHARGE)
        return [
            (("views", "is_view"), [(view,), (None,)]), (("views", "views"), [()]),
            (("views", "asks"), [(view,)]),
            (("tables", "kept"), terms), (("tables", "table"), terms), (("tables", "least_sum"), terms[:1]),
            (("tables", "is_table"), [(*one, put(table(*case, *terms[0]))) for one in terms]),
            (("liars", "liar"), terms),
            (("liars", "is_liar"), [((0, 1), CHARGE, put(liar(*case, (0, 1), CHARGE)))]),
            (("shares", "least_share"), [(CHARGE,)]), (("presses", "press"), [(CHARGE,)]),
            (("presses", "is_press"), [(*least, put(press(*case, CHARGE)))]),
            (("styles", "style_share"), [("near", CHARGE), ("offset", CHARGE)]),
            (("styles", "worst_round"), [("near", CHARGE)]),
            (("styles", "is_worst_round"), [("near", CHARGE, worst_round(*case, "near", CHARGE))]),
            (("rules", "rule"), terms[:1]), (("rules", "is_rule"), [(*terms[0], put(rule(*case, *terms[0])))]),
            (("blames", "blamed"), [(CHARGE,)]), (("memory", "memory"), [()]),
            (("memory", "is_memory"), [(memory(*case),)]),
            (("rounds", "rounds_sum"), [(*one, 7) for one in terms]),
            (("rounds", "cruelest"), [("near", *one, 7) for one in terms]),
            (("matches", "played"), [("trust", asks(*case, view)[:1])]),
        ]


def snapshot(thing):
    """What a thing tells, as copies."""
    if isinstance(thing, System):
        return "system", thing.moves, list(thing.requests.items()), thing.posts, thing.names
    if isinstance(thing, Machine):
        return "machine", [list(turn.items()) for turn in thing.turns], thing.states
    if isinstance(thing, Match):
        return "match", thing.view, thing.asked, thing.rounds, thing.paid, thing.wisest, thing.lies, thing.history()
    if isinstance(thing, dict):
        return "dict", [(key, snapshot(thing[key])) for key in thing]
    if isinstance(thing, (list, tuple)):
        return type(thing).__name__, [snapshot(item) for item in thing]
    return copy.deepcopy(thing)


def plain(thing):
    """The same without the order of keys, so that equal answers are equal."""
    if isinstance(thing, System):
        return thing.moves, thing.requests
    if isinstance(thing, Machine):
        return thing.turns
    if isinstance(thing, Match):
        return snapshot(thing)
    return copy.deepcopy(thing)


def spoil(thing):
    """Change all that can be changed in a thing: lists and dicts, those inside it, too."""
    if isinstance(thing, (System, Machine)):
        spoil(thing.requests if isinstance(thing, System) else thing.turns)
    elif isinstance(thing, (list, tuple, dict)):
        for item in list(thing.values() if isinstance(thing, dict) else thing):
            spoil(item)
        if not isinstance(thing, tuple):
            thing.clear()


def function(key):
    return getattr(importlib.import_module("hintslie." + key[0]), key[1])


class WholeTest(unittest.TestCase):
    def each(self, about=False):
        for key, told in Arguments(about).calls().items():
            for arguments in told:
                yield key, arguments

    def test_all_functions_are_here(self):
        named = {
            (module, name) for module, told in INTERFACE.items() for name, members in told.items() if members is None
        }
        self.assertEqual(set(Arguments(False).calls()), named)

    def test_arguments_stay_and_answers_are_equal(self):
        for key, arguments in self.each():
            before = snapshot(arguments)
            first = plain(function(key)(*arguments))
            self.assertEqual(snapshot(arguments), before, key)
            self.assertEqual(plain(function(key)(*arguments)), first, key)

    def test_the_order_of_keys_means_nothing(self):
        for (key, arguments), (_, others) in zip(self.each(), self.each(True)):
            self.assertEqual(plain(function(key)(*arguments)), plain(function(key)(*others)), key)

    def test_what_was_returned_may_be_changed(self):
        for key, arguments in self.each():
            before = snapshot(arguments)
            found = function(key)(*arguments)
            first = plain(found)
            spoil(found)
            self.assertEqual(plain(function(key)(*arguments)), first, key)
            self.assertEqual(snapshot(arguments), before, key)

    def test_what_was_passed_may_be_changed(self):
        requests, turns = rent().requests, ({"day": 0, "over": 0},)
        system, machine = System(rent().moves, requests), Machine(turns)
        spoil(requests), spoil(turns)
        self.assertEqual(system, rent())
        self.assertEqual(machine, free_machine(rent()))
        for (key, arguments), (_, others) in zip(self.each(), self.each()):
            found = function(key)(*arguments)
            for thing in arguments:
                if isinstance(thing, (list, dict)):
                    spoil(thing)
            self.assertEqual(plain(found), plain(function(key)(*others)), key)

    def test_returned_lists_and_dicts_are_new(self):
        for key, arguments in self.each():
            one, other = function(key)(*arguments), function(key)(*arguments)
            if isinstance(one, (list, dict)):
                self.assertIsNot(one, other, key)
                for thing in arguments:
                    self.assertIsNot(one, thing, key)

    def test_flags(self):
        for key, arguments in self.each():
            if key[1].startswith("is_"):
                self.assertIs(type(function(key)(*arguments)), bool)
                for thing in objects():
                    self.assertIn(function(key)(*arguments[:-1], thing), (True, False), key)
                    self.assertIs(type(function(key)(*arguments[:-1], thing)), bool)

    def test_no_other_error_whatever_an_argument_is(self):
        right = (System, Machine, Match)
        for key, arguments in self.each():
            # In these the arguments are of the described kind, as no error is named for them.
            if key[1] in ("view_text", "first_view", "is_floor") or key[1].startswith("is_"):
                continue
            for place, thing in enumerate(arguments):
                if isinstance(thing, right):
                    continue
                for wrong in objects() + [[thing], {"day": thing}, (thing, thing)]:
                    spoiled = arguments[:place] + (wrong,) + arguments[place + 1:]
                    before = snapshot(spoiled[:place] + spoiled[place + 1:])
                    try:
                        function(key)(*spoiled)
                    except HintError:
                        pass
                    self.assertEqual(snapshot(spoiled[:place] + spoiled[place + 1:]), before, key)

    def test_no_deep_recursion(self):
        limit = sys.getrecursionlimit()
        depth = len(self.frames())
        told = list(self.each())
        try:
            sys.setrecursionlimit(depth + 60)
            for key, arguments in told:
                function(key)(*arguments)
        finally:
            sys.setrecursionlimit(limit)

    def frames(self):
        frame, found = sys._getframe(), []
        while frame is not None:
            found.append(frame)
            frame = frame.f_back
        return found

    def test_long_rows(self):
        row = ROW * 75
        case = (rent(), free_machine(rent()))
        self.assertEqual(function(("wisest", "wisest"))(rent(), row)[0], floor(rent(), row)[0][0])
        asked = [("day", "over") if index % 2 else ("day", "day") for index in range(300)]
        self.assertEqual(len(function(("matches", "played"))(*case, "free", "near", asked)[0]), 300)
        match = Match(*case, "free")
        for ask in asked:
            match.ask(ask)
            match.answer(0)
        read = function(("histories", "read_history"))(*case, history_text(match))
        self.assertEqual(read.history(), match.history())
        desk = Desk()
        desk.tell("system rent " + system_text(case[0]).replace("\n", "|"))
        desk.tell("machine free " + machine_text(case[1]).replace("\n", "|"))
        desk.tell("begin rent free free")
        for request, hint in asked:
            desk.tell("ask " + request + " " + hint)
            desk.tell("serve 0")
        self.assertEqual(desk.undoable(), 603)
        self.assertEqual(desk.tell("sums").split(" ")[0], "300")
        for _ in range(603):
            desk.tell("undo")
        self.assertEqual(desk.tell("names"), "none")


class KindsTest(unittest.TestCase):
    """Systems and machines never change: what one has is new each time."""

    def test_attributes(self):
        for system in (rent(), stall(), renting(3), rooms(2, 3), rows(3), walkers(((0, 1), (1, 0)), 1)):
            before = snapshot(system)
            spoil(system.requests)
            self.assertEqual(snapshot(system), before)
            self.assertIsNot(system.requests, system.requests)
        machine = free_machine(rent())
        spoil(machine.turns)
        self.assertEqual(machine.turns, ({"day": 0, "over": 0},))
        self.assertIsNot(machine.turns[0], machine.turns[0])

    def test_match_and_desk_change_by_their_own_methods_alone(self):
        match = Match(rent(), free_machine(rent()), "free")
        match.ask(("day", "over"))
        before = snapshot(match)
        other = match.copy()
        other.answer(1)
        spoil(match.history())
        history_text(match)
        match.balance((1, 1), (0, 1))
        match.trying(lambda one: one.answer(0))
        self.assertEqual(snapshot(match), before)
        desk = Desk()
        for line in ("look", "names", "share a b none 0/1", "undo"):
            for action in (desk.would, desk.tell):
                try:
                    action(line)
                except HintError:
                    pass
        self.assertEqual(desk.undoable(), 0)


if __name__ == "__main__":
    unittest.main()
