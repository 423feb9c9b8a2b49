import unittest

from helpers import (
    GREAT, MODES, detour, line, made, number_spoils, objects, pages, rent, replaced, served_posts, single, slow_way,
    walked,
)
from hintslie.errors import BadAsk, BadMode, BadPost, BadView, TooMany, Unsuited
from hintslie.knowledge import after_request, first_offsets
from hintslie.machines import Machine, free_machine
from hintslie.systems import System
from hintslie.views import answered, asks, first_view, is_view, views

# Systems with just 1000 and just 1001 views that come, all by their free machines; the tests count them again.
JUST_LET = (
    ("none", ((0, 8, 3, 8, 8), (6, 0, 3, 7, 5), (8, 2, 0, 9, 1), (5, 9, 7, 0, 9), (2, 1, 6, 4, 0)),
     {"a": (4, 3, 3, 1, 0), "b": (8, 5, 8, 5, 9), "c": (8, 5, 1, 5, 4), "d": (1, 5, 5, 9, 1)}),
    ("free", ((0, 6, 9, 3, 6), (5, 0, 6, 0, 2), (9, 2, 0, 3, 2), (1, 8, 7, 0, 7), (4, 7, 9, 7, 0)),
     {"a": (1, None, 5, 2, 0), "b": (5, 0, 1, 4, 1), "c": (5, 3, 6, None, 6)}),
)
JUST_TOO_MANY = (
    ("free", ((0, 2, 2, 2, 3), (0, 0, 1, 2, 3), (1, 3, 0, 1, 2), (3, 2, 0, 0, 2), (0, 3, 3, 2, 0)),
     {"a": (3, 3, 1, 1, 2), "b": (3, 0, 3, 1, 0), "c": (2, 0, 1, 0, 2), "d": (0, 0, 0, 1, 1)}),
    ("true", ((0, 9, 5, 6), (2, 0, 2, 0), (3, 5, 0, 7), (8, 0, 1, 0)),
     {"a": (3, 9, 4, 4), "b": (7, 2, 5, 0), "c": (9, 7, 6, 5), "d": (5, 9, 2, 6), "e": (5, 7, 8, 5)}),
)
NO_MODES = ["", "None", "nones", "tru", "FREE", " free", b"none", ("none",), ["true"], {"free": 1}]
STRANGE = Machine(({"day": 0, "night": 0}, {"zoo": 0, "mist": 1}))


def views_of_all_kinds():
    """Triples of rent, line() and a mode, each with a list of views, some of which never come."""
    found = [(rent(), line(), "none", [(0, 0, (0, 2), None), (2, 1, (0, 0), None), (1, 1, (0, 1), None)])]
    told = [(0, 0, (0, 1), "over"), (1, 1, (0, 0), "day"), (2, 0, (0, 2), "over"), (1, 0, (0, 2), None)]
    for mode in ("true", "free"):
        found.append((rent(), line(), mode, told))
    return found


class FirstViewTest(unittest.TestCase):
    def test_it(self):
        self.assertEqual(first_view(rent()), (0, 0, (0, 2), None))
        self.assertEqual(first_view(detour()), (0, 0, (0, 1, 2), None))
        for system, machine, mode in made(20, 30):
            self.assertEqual(first_view(system), (0, 0, first_offsets(system), None))
            self.assertIs(is_view(system, machine, mode, first_view(system)), True)


class IsViewTest(unittest.TestCase):
    def test_views(self):
        for system, machine, mode, found in views_of_all_kinds():
            for view in found:
                self.assertIs(is_view(system, machine, mode, view), True, (mode, view))

    def test_hints(self):
        for mode in MODES:
            for state, let in enumerate((("day", "over"), ("day",), ("day", "over"))):
                self.assertIs(is_view(rent(), line(), mode, (state, 0, (0, 2), None)), True)
                for hint in ("day", "over"):
                    right = mode != "none" and hint in let
                    self.assertIs(is_view(rent(), line(), mode, (state, 0, (0, 2), hint)), right, (mode, state, hint))
                for hint in objects() + ["night", "none", "da"]:
                    if hint not in ("day", "over", None):
                        self.assertIs(is_view(rent(), line(), mode, (state, 0, (0, 2), hint)), False)

    def test_states_and_posts(self):
        for system, machine, mode, found in views_of_all_kinds():
            for view in found:
                for thing in number_spoils() + [3, 4, 7, GREAT] + objects():
                    if type(thing) is not int or thing > 2 or thing < 0:
                        self.assertIs(is_view(system, machine, mode, replaced(view, 0, thing)), False)
                    if type(thing) is not int or thing > 1 or thing < 0:
                        self.assertIs(is_view(system, machine, mode, replaced(view, 1, thing)), False)
                for post in (0, 1):
                    self.assertIs(is_view(system, machine, mode, replaced(view, 1, post)), True)
        self.assertIs(is_view(rent(), free_machine(rent()), "none", (1, 0, (0, 2), None)), False)

    def test_offsets(self):
        for system, machine, mode, found in views_of_all_kinds():
            for view in found:
                for offsets in ((0, 0), (0, 1), (0, 2)):
                    self.assertIs(is_view(system, machine, mode, replaced(view, 2, offsets)), True)
                for offsets in [(0, 3), (2, 1), (1, 1), (-1, 0), (0,), (0, 1, 0), [0, 2], (0, True), (False, 2),
                                (0, GREAT), (0, "1"), (0, None), (0, [1])] + objects():
                    if offsets != (0, 0):
                        self.assertIs(is_view(system, machine, mode, replaced(view, 2, offsets)), False, offsets)

    def test_parts(self):
        for system, machine, mode, found in views_of_all_kinds():
            for view in found:
                for many in range(4):
                    self.assertIs(is_view(system, machine, mode, view[:many]), False)
                self.assertIs(is_view(system, machine, mode, view + (None,)), False)
                self.assertIs(is_view(system, machine, mode, list(view)), False)
                self.assertIs(is_view(system, machine, mode, (view,)), False)
                self.assertIs(is_view(system, machine, mode, view[::-1]), False)

    def test_any_object(self):
        for mode in MODES:
            for thing in objects():
                self.assertIs(is_view(rent(), line(), mode, thing), False)
                self.assertIs(is_view(rent(), line(), mode, (thing,) * 4), False)

    def test_all_that_come_are_views(self):
        for system, machine, mode in made(21, 30):
            for view in walked(system, machine, mode, 60):
                self.assertIs(is_view(system, machine, mode, view), True)


class AsksTest(unittest.TestCase):
    def test_none(self):
        view = (1, 1, (0, 0), None)
        self.assertEqual(asks(rent(), line(), "none", view), [("day", None)])
        self.assertEqual(asks(rent(), line(), "none", replaced(view, 0, 2)), [("day", None), ("over", None)])

    def test_true(self):
        both = [("day", "day"), ("day", "over"), ("over", "day")]
        self.assertEqual(asks(rent(), line(), "true", (0, 0, (0, 2), None)), both)
        self.assertEqual(asks(rent(), line(), "true", (0, 0, (0, 2), "day")), both[:2])
        self.assertEqual(asks(rent(), line(), "true", (0, 0, (0, 2), "over")), both[2:])

    def test_free(self):
        both = [("day", "day"), ("day", "over"), ("over", "day")]
        for hint in (None, "day", "over"):
            self.assertEqual(asks(rent(), line(), "free", (0, 0, (0, 2), hint)), both)
        self.assertEqual(
            asks(rent(), line(), "free", (2, 0, (0, 2), "over")),
            [("day", "day"), ("day", "over"), ("over", "day"), ("over", "over")],
        )

    def test_order_and_newness(self):
        for system, machine, mode in made(22, 40, most_requests=5):
            turns = machine.turns
            for view in list(walked(system, machine, mode, 30))[:30]:
                expected = []
                for request in sorted(turns[view[0]]):
                    if mode == "true" and view[3] not in (None, request):
                        continue
                    hints = [None] if mode == "none" else sorted(turns[turns[view[0]][request]])
                    expected.extend((request, hint) for hint in hints)
                found = asks(system, machine, mode, view)
                self.assertIsInstance(found, list)
                self.assertEqual(found, expected)
                found.clear()
                self.assertEqual(asks(system, machine, mode, view), expected)

    def test_the_order_of_keys_means_nothing(self):
        other_rent = System(((0, 2), (0, 0)), {"over": (0, None), "day": (1, 0)})
        other_line = Machine(({"over": 1, "day": 0}, {"day": 2}, {"over": 0, "day": 2}))
        for mode in MODES:
            for view in walked(rent(), line(), mode):
                self.assertEqual(asks(other_rent, other_line, mode, view), asks(rent(), line(), mode, view))
            self.assertEqual(walked(rent(), line(), mode), walked(other_rent, other_line, mode))


class AnsweredTest(unittest.TestCase):
    def test_parts(self):
        view = (0, 1, (0, 1), "over")
        result = answered(rent(), line(), "free", view, ("day", "over"), 0)
        self.assertEqual(result, ((0, 0, (0, 0), "over"), 1, 1, 1))
        result = answered(rent(), line(), "free", view, ("day", "day"), 1)
        self.assertEqual(result, ((0, 1, (0, 0), "day"), 0, 1, 1))
        result = answered(rent(), line(), "free", view, ("over", "day"), 0)
        self.assertEqual(result, ((1, 0, (0, 2), "day"), 0, 0, 0))
        result = answered(rent(), line(), "none", (0, 0, (0, 2), None), ("day", None), 1)
        self.assertEqual(result, ((0, 1, (0, 1), None), 2, 1, 0))

    def test_lies(self):
        for hint, lie in ((None, 0), ("day", 0), ("over", 1)):
            result = answered(rent(), line(), "free", (0, 0, (0, 2), hint), ("day", "day"), 0)
            self.assertEqual(result[3], lie)
            self.assertIs(type(result[3]), int)

    def test_each_part(self):
        lies = 0
        for system, machine, mode in made(23, 60, most_posts=4):
            turns = machine.turns
            for view, outcome in list(walked(system, machine, mode, 40).items())[:40]:
                for ask, results in outcome.items():
                    for post, result in zip(served_posts(system, ask[0]), results):
                        offsets, rise = after_request(system, view[2], ask[0])
                        price = slow_way(system.moves, view[1], post) + system.requests[ask[0]][post]
                        lie = 1 if view[3] is not None and view[3] != ask[0] else 0
                        behind = (turns[view[0]][ask[0]], post, offsets, ask[1])
                        self.assertEqual(result, (behind, price, rise, lie))
                        self.assertIsInstance(result, tuple)
                        self.assertIs(is_view(system, machine, mode, result[0]), True)
                        self.assertTrue(mode == "free" or lie == 0)
                        lies += lie
        self.assertGreater(lies, 0)

    def test_the_way_counts(self):
        result = answered(detour(), free_machine(detour()), "none", (0, 0, (0, 1, 2), None), ("out", None), 2)
        self.assertEqual(result[1], 2 + 4)

    def test_views_that_never_come(self):
        view = (1, 0, (0, 2), None)
        self.assertNotIn(view, walked(rent(), line(), "free"))
        self.assertEqual(
            answered(rent(), line(), "free", view, ("day", "over"), 1), ((2, 1, (0, 1), "over"), 2, 1, 0)
        )


class ErrorsTest(unittest.TestCase):
    VIEW = (0, 0, (0, 2), "over")

    def calls(self, machine, mode, view, ask, post):
        return [
            lambda: answered(rent(), machine, mode, view, ask, post),
            lambda: asks(rent(), machine, mode, view),
            lambda: views(rent(), machine, mode),
            lambda: is_view(rent(), machine, mode, view),
        ]

    def test_unsuited(self):
        for machine, name in (
            (STRANGE, "mist"), (free_machine(detour()), "in"), (Machine(({"dax": 0, "over": 0},)), "dax"),
            (Machine(({"day": 0}, {"over": 1, "z": 0})), "z"),
            (Machine(({name: 0 for name in ("y", "day", "w", "s", "t", "r", "v")}, {"q": 0, "x": 0, "u": 1})), "q"),
        ):
            for mode in ("none", "free", "no", None):
                for call in self.calls(machine, mode, None, None, None)[:3]:
                    with self.assertRaises(Unsuited) as caught:
                        call()
                    self.assertEqual(caught.exception.name, name)
            with self.assertRaises(Unsuited) as caught:
                is_view(rent(), machine, "none", (0, 0, (0, 2), None))
            self.assertEqual(caught.exception.name, name)

    def test_a_machine_of_fewer_names_suits(self):
        self.assertEqual(asks(rent(), Machine(({"over": 0},)), "true", first_view(rent())), [("over", "over")])

    def test_bad_mode(self):
        for mode in NO_MODES + objects():
            for call in self.calls(line(), mode, None, None, None)[:3]:
                with self.assertRaises(BadMode):
                    call()
            for call in self.calls(line(), mode, self.VIEW, ("day", "day"), 0)[:3]:
                with self.assertRaises(BadMode):
                    call()
        for call in self.calls(line(), "free", self.VIEW, ("day", "day"), 0):
            call()

    def test_bad_view(self):
        for mode in MODES:
            for view in objects() + [list(self.VIEW), self.VIEW[:3], self.VIEW + (0,), replaced(self.VIEW, 3, "da")]:
                for call in self.calls(line(), mode, view, None, None)[:2]:
                    with self.assertRaises(BadView):
                        call()
        for call in self.calls(line(), "none", self.VIEW, ("day", None), 0)[:2]:
            with self.assertRaises(BadView):
                call()
        with self.assertRaises(BadView):
            asks(rent(), line(), "free", (1, 0, (0, 2), "over"))
        with self.assertRaises(BadView):
            asks(rent(), line(), "free", (False, 0, (0, 2), "over"))

    def test_bad_ask(self):
        bad = {
            "none": (first_view(rent()), [("day", "day"), ("over", "day"), ("no", None), ("day",), ["day", None]]),
            "true": (self.VIEW, [("day", "day"), ("over", "over"), ("over", None), ("over", "day", 0), ("day", None)]),
            "free": (self.VIEW, [("over", "over"), ("day", None), (None, "day"), ["day", "day"], ("day", "no"), "day"]),
        }
        for mode, (view, found) in bad.items():
            for ask in found + [thing for thing in objects() if thing != ("day", None)]:
                for post in (0, 5, None, []):
                    with self.assertRaises(BadAsk):
                        answered(rent(), line(), mode, view, ask, post)

    def test_bad_post(self):
        for mode, view in (("none", first_view(rent())), ("true", self.VIEW), ("free", self.VIEW)):
            ask = ("over", None if mode == "none" else "day")
            for post in objects() + [3, GREAT, [0], (0,), False]:
                if type(post) is not int or post != 0:
                    with self.assertRaises(BadPost) as caught:
                        answered(rent(), line(), mode, view, ask, post)
                    self.assertIs(caught.exception.post, post)
            self.assertEqual(answered(rent(), line(), mode, view, ask, 0)[1], 0)
        for post in (True, 2, -1):
            with self.assertRaises(BadPost):
                answered(rent(), line(), "none", first_view(rent()), ("day", None), post)
        self.assertEqual(answered(rent(), line(), "none", first_view(rent()), ("day", None), 1)[1], 2)

    def test_order(self):
        steps = [
            (Unsuited, (STRANGE, "no", None, None, None)),
            (BadMode, (line(), "no", None, None, None)),
            (BadView, (line(), "free", None, None, None)),
            (BadAsk, (line(), "free", self.VIEW, None, None)),
            (BadPost, (line(), "free", self.VIEW, ("over", "day"), None)),
        ]
        for kind, arguments in steps:
            with self.assertRaises(kind):
                answered(rent(), *arguments)


class ViewsTest(unittest.TestCase):
    def test_rent(self):
        self.assertEqual(views(rent(), free_machine(rent()), "none"), 5)
        self.assertEqual(views(rent(), free_machine(rent()), "true"), 11)
        self.assertEqual(views(single(), free_machine(single()), "none"), 1)
        self.assertEqual(views(single(), free_machine(single()), "free"), 3)

    def test_beside_a_walk(self):
        for system in (rent(), pages(), detour(), single()):
            for mode in MODES:
                found = walked(system, free_machine(system), mode)
                self.assertEqual(views(system, free_machine(system), mode), len(found))
        for system, machine, mode in made(24, 60):
            found = walked(system, machine, mode, 1000)
            if len(found) <= 1000:
                count = views(system, machine, mode)
                self.assertEqual(count, len(found))
                self.assertIs(type(count), int)

    def test_states_that_do_not_come_count_nothing(self):
        machine = Machine(({"day": 0, "over": 0}, {"day": 1}))
        self.assertEqual(views(rent(), machine, "none"), 5)

    def test_just_let(self):
        for mode, moves, requests in JUST_LET:
            system = System(moves, requests)
            self.assertEqual(len(walked(system, free_machine(system), mode)), 1000)
            self.assertEqual(views(system, free_machine(system), mode), 1000)

    def test_too_many(self):
        for mode, moves, requests in JUST_TOO_MANY:
            system = System(moves, requests)
            self.assertEqual(len(walked(system, free_machine(system), mode)), 1001)
            for _ in range(2):
                with self.assertRaises(TooMany) as caught:
                    views(system, free_machine(system), mode)
                self.assertEqual(caught.exception.most, 1000)
            with self.assertRaises(BadMode):
                views(system, free_machine(system), "all")
            self.assertEqual(len(asks(system, free_machine(system), mode, first_view(system))), len(requests) ** 2)


if __name__ == "__main__":
    unittest.main()
