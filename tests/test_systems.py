import random
import unittest

from helpers import GREAT, detour, less, line, made_system, objects, rent, replaced, slow_way
from hintslie.errors import BadSystem, NoPost, NoRequest
from hintslie.machines import free_machine
from hintslie.systems import System

MOVES = ((0, 2, 4), (1, 0, 3), (9, 0, 0))
REQUESTS = {"do": (0, None, 9), "re": (1, 2, 3)}
NO_PRICES = [-1, 10, True, False, "1", b"1", [1], (1,), {}, GREAT, -GREAT]


def square(posts, price=1):
    return tuple(tuple(0 if a == b else price for b in range(posts)) for a in range(posts))


class SystemTest(unittest.TestCase):
    def assert_bad(self, part, moves, requests):
        with self.assertRaises(BadSystem) as caught:
            System(moves, requests)
        self.assertEqual(caught.exception.part, part)

    def assert_bad_moves(self, moves):
        self.assert_bad("moves", moves, REQUESTS)

    def assert_bad_requests(self, requests):
        self.assert_bad("requests", MOVES, requests)

    def test_what_is_told_of_it(self):
        system = System(MOVES, REQUESTS)
        self.assertEqual(system.moves, MOVES)
        self.assertEqual(system.requests, REQUESTS)
        self.assertEqual(system.posts, 3)
        self.assertEqual(system.names, ("do", "re"))
        self.assertEqual(System(MOVES, {"z": (1, 1, 1), "b": (1, 1, 1), "ab": (0, 0, 0)}).names, ("ab", "b", "z"))

    def test_number_of_posts(self):
        for posts in range(1, 7):
            system = System(square(posts), {"x": (0,) * posts})
            self.assertEqual(system.posts, posts)
            self.assertEqual(system.moves, square(posts))
        self.assert_bad("moves", (), {"x": ()})
        self.assert_bad("moves", square(7), {"x": (0,) * 7})

    def test_number_of_requests(self):
        for many in range(1, 6):
            requests = {name: (0, 1, 2) for name in "edcba"[:many]}
            self.assertEqual(System(MOVES, requests).requests, requests)
        self.assert_bad_requests({})
        self.assert_bad_requests({name: (0, 1, 2) for name in "abcdef"})

    def test_prices_of_steps(self):
        for price in (0, 9):
            self.assertEqual(System(square(3, price), REQUESTS).moves, square(3, price))
        for a in range(3):
            for b in range(3):
                for price in NO_PRICES + [None]:
                    self.assert_bad_moves(replaced(MOVES, a, replaced(MOVES[a], b, price)))

    def test_diagonal(self):
        for post in range(3):
            for price in (1, 9):
                self.assert_bad_moves(replaced(MOVES, post, replaced(MOVES[post], post, price)))

    def test_rows_of_moves(self):
        for post in range(3):
            self.assert_bad_moves(replaced(MOVES, post, MOVES[post][:2]))
            self.assert_bad_moves(replaced(MOVES, post, MOVES[post] + (0,)))
            self.assert_bad_moves(replaced(MOVES, post, list(MOVES[post])))
            self.assert_bad_moves(replaced(MOVES, post, ()))
        self.assert_bad_moves(MOVES[:2])
        self.assert_bad_moves(MOVES + ((0, 0, 0),))
        self.assert_bad_moves(list(MOVES))

    def test_other_things_as_moves(self):
        for thing in objects():
            self.assert_bad_moves(thing)
            if thing != (0,):
                self.assert_bad_moves((thing,))
            if type(thing) is not int or thing != 0:
                self.assert_bad_moves(((thing,),))
            for post in range(3):
                self.assert_bad_moves(replaced(MOVES, post, thing))

    def test_prices_of_requests(self):
        for price in (0, 9):
            requests = {"do": (price, price, price)}
            self.assertEqual(System(MOVES, requests).requests, requests)
        for post in range(3):
            only = replaced((None, None, None), post, 4)
            self.assertEqual(System(MOVES, {"do": only}).requests, {"do": only})
            for price in NO_PRICES:
                self.assert_bad_requests({"do": replaced((1, 1, 1), post, price), "re": (1, 2, 3)})
                self.assert_bad_requests({"do": (1, 1, 1), "re": replaced((None, None, 1), post, price)})
        self.assert_bad_requests({"do": (None, None, None)})
        self.assert_bad_requests({"do": (1, 1, 1), "re": (None, None, None)})

    def test_rows_of_requests(self):
        for prices in ((0, 1), (0, 1, 2, 3), (), [0, 1, 2], (0, 1, None, None)):
            self.assert_bad_requests({"do": prices})
            self.assert_bad_requests({"do": (0, 0, 0), "re": prices})

    def test_names(self):
        for name in ("a", "z", "abcdefgh", "zzzzzzzz"):
            self.assertEqual(System(MOVES, {name: (0, 1, 2)}).names, (name,))
        names = ["", "abcdefghi", "Ab", "aB", "a1", "a b", " a", "a_", "a-b", "a\n", "`", "{", 1, None, True, b"ab",
                 ("a",), GREAT, len]
        for name in names:
            self.assert_bad_requests({name: (0, 1, 2)})
            self.assert_bad_requests({"do": (0, 1, 2), name: (0, 1, 2)})
            self.assert_bad_requests({name: (0, 1, 2), "do": (0, 1, 2)})

    def test_other_things_as_requests(self):
        for thing in objects():
            self.assert_bad_requests(thing)
            self.assert_bad_requests({"do": thing})
            self.assert_bad_requests({"do": (1, 1, 1), "re": thing})
        for thing in less(objects(), (int, type(None))):
            self.assert_bad_requests({"do": (1, thing, 1)})

    def test_moves_ahead_of_requests(self):
        self.assert_bad("moves", [], {})
        self.assert_bad("moves", None, None)
        self.assert_bad("moves", ((1,),), {"": ()})
        self.assert_bad("requests", ((0,),), None)

    def test_requests_is_new_each_time(self):
        system = System(MOVES, REQUESTS)
        system.requests["do"] = (1, 1, 1)
        system.requests.clear()
        self.assertIsNot(system.requests, system.requests)
        self.assertEqual(system.requests, REQUESTS)

    def test_what_was_passed_may_be_changed(self):
        requests = dict(REQUESTS)
        system = System(MOVES, requests)
        requests["do"] = (5, 5, 5)
        requests["la"] = (5, 5, 5)
        del requests["re"]
        self.assertEqual(system.requests, REQUESTS)
        self.assertEqual(system.names, ("do", "re"))
        self.assertEqual(system.served("do", 0), 0)
        self.assertEqual(system, System(MOVES, REQUESTS))

    def test_arguments_are_not_changed(self):
        requests = {"re": (1, 2, 3), "do": (0, None, 9)}
        System(MOVES, requests)
        self.assertEqual(list(requests.items()), [("re", (1, 2, 3)), ("do", (0, None, 9))])

    def test_equality(self):
        system = System(MOVES, REQUESTS)
        alike = [System(MOVES, REQUESTS), System(MOVES, {"re": (1, 2, 3), "do": (0, None, 9)}), system]
        for other in alike:
            self.assertIs(system == other, True)
            self.assertIs(system != other, False)
        unlike = [
            System(MOVES, {"do": (0, None, 9)}), System(MOVES, {"do": (0, None, 8), "re": (1, 2, 3)}),
            System(MOVES, {"do": (0, None, 9), "mi": (1, 2, 3)}), System(MOVES, {"do": (0, 0, 9), "re": (1, 2, 3)}),
            System(replaced(MOVES, 0, (0, 2, 5)), REQUESTS), rent(), detour(),
        ]
        for other in unlike + objects() + [MOVES, REQUESTS, line(), free_machine(system)]:
            self.assertIs(system == other, False)
            self.assertIs(other == system, False)
            self.assertIs(system != other, True)

    def test_equality_is_of_moves_not_of_ways(self):
        one = System(((0, 1, 2), (0, 0, 1), (0, 0, 0)), {"x": (0, 0, 0)})
        other = System(((0, 1, 3), (0, 0, 1), (0, 0, 0)), {"x": (0, 0, 0)})
        self.assertEqual(one.way(0, 2), other.way(0, 2))
        self.assertIs(one == other, False)


class WayTest(unittest.TestCase):
    def assert_no_post(self, post, call, *arguments):
        with self.assertRaises(NoPost) as caught:
            call(*arguments)
        self.assertIs(caught.exception.post, post)

    def no_posts(self, posts):
        return [thing for thing in objects() if type(thing) is not int or not 0 <= thing < posts] + [posts, -1, GREAT]

    def test_ways_by_other_posts(self):
        system = detour()
        self.assertEqual(system.moves[0][2], 9)
        self.assertEqual(system.way(0, 2), 2)
        self.assertEqual(system.way(1, 0), 1)
        self.assertEqual(system.way(2, 1), 1)

    def test_a_long_way(self):
        moves = tuple(tuple(0 if a == b else 1 if b == a + 1 else 9 for b in range(6)) for a in range(6))
        system = System(moves, {"x": (0,) * 6})
        self.assertEqual([system.way(0, post) for post in range(6)], [0, 1, 2, 3, 4, 5])
        self.assertEqual(system.way(5, 0), 9)

    def test_beside_all_orders(self):
        chance = random.Random(1)
        for posts in (1, 2, 3, 4, 5, 6, 4, 5, 4, 5):
            system = made_system(chance, posts, 1)
            for a in range(posts):
                for b in range(posts):
                    self.assertEqual(system.way(a, b), slow_way(system.moves, a, b))
                self.assertEqual(system.way(a, a), 0)

    def test_no_post(self):
        system = detour()
        for thing in self.no_posts(3):
            self.assert_no_post(thing, system.way, thing, 0)
            self.assert_no_post(thing, system.way, 2, thing)
            self.assert_no_post(thing, system.way, thing, [])
            self.assert_no_post(thing, system.way, thing, 3)
            self.assert_no_post(thing, system.served, "up", thing)
        self.assertEqual(system.way(0, 2), 2)

    def test_served(self):
        system = detour()
        for name, prices in system.requests.items():
            for post in range(3):
                self.assertEqual(system.served(name, post), prices[post])
        self.assertIsNone(system.served("in", 2))

    def test_no_request_then_no_post(self):
        system = detour()
        for thing in objects() + ["inn", "i", "IN", ("in",), ["in"]]:
            for post in (0, 3, [], True):
                with self.assertRaises(NoRequest) as caught:
                    system.served(thing, post)
                self.assertIs(caught.exception.name, thing)
        self.assertEqual(system.served("in", 0), 3)


if __name__ == "__main__":
    unittest.main()
