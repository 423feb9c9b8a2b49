import random
import unittest
from itertools import product

from helpers import GREAT, detour, made, objects, pages, rent, replaced, service_price, single, slow_prices
from hintslie.errors import BadRow
from hintslie.systems import System
from hintslie.wisest import floor, is_floor, wisest


def rows_of(system, most):
    for many in range(most + 1):
        for row in product(system.names, repeat=many):
            yield row


def slow_is_floor(system, row, price, thing):
    """The clauses of a floor, of tuples of integers in the right numbers."""
    if any(item > 0 for item in thing[-1]) or thing[0][0] < price:
        return False
    return all(
        thing[k][a] <= system.way(a, b) + system.served(name, b) + thing[k + 1][b]
        for k, name in enumerate(row)
        for a in range(system.posts)
        for b in range(system.posts)
        if system.served(name, b) is not None
    )


class WisestTest(unittest.TestCase):
    def assert_right(self, system, row):
        prices = slow_prices(system, row)
        price, posts = wisest(system, row)
        self.assertEqual(price, min(prices.values()))
        self.assertIsInstance(posts, tuple)
        self.assertEqual(prices[posts], price)

    def test_example(self):
        self.assertEqual(wisest(rent(), ["day", "day", "day"]), (2, (1, 1, 1)))

    def test_beside_all_services(self):
        for system in (rent(), pages(), detour(), single()):
            for row in rows_of(system, 4):
                self.assert_right(system, row)
        for system, _, _ in made(3, 40, most_posts=4, most=9):
            for row in rows_of(system, 3):
                self.assert_right(system, list(row))

    def test_what_comes_behind_the_next_request_counts(self):
        system = System(((0, 3), (8, 0)), {"a": (1, 1), "b": (6, 4)})
        self.assertEqual(wisest(system, ["a", "b"]), (7, (0, 0)))

    def test_empty_row(self):
        self.assertEqual(wisest(detour(), []), (0, ()))
        self.assertEqual(wisest(detour(), ()), (0, ()))

    def test_long_rows(self):
        system = detour()
        chance = random.Random(5)
        for many in (100, 299, 300):
            row = [chance.choice(system.names) for _ in range(many)]
            price, posts = wisest(system, row)
            self.assertEqual(len(posts), many)
            self.assertEqual(service_price(system, row, posts), price)
            self.assertIs(is_floor(system, row, price, floor(system, row)), True)
        self.assertEqual(wisest(rent(), ["day"] * 300), (2, (1,) * 300))

    def test_lists_and_tuples(self):
        for row in rows_of(rent(), 3):
            self.assertEqual(wisest(rent(), row), wisest(rent(), list(row)))
            self.assertEqual(floor(rent(), row), floor(rent(), list(row)))

    def test_bad_rows(self):
        for call in (wisest, floor):
            for thing in objects():
                if not isinstance(thing, (list, tuple)):
                    self.assert_bad(call, thing, -1)
                if thing != "day":
                    self.assert_bad(call, [thing], 0)
                    self.assert_bad(call, ("day", thing, "day"), 1)
                    self.assert_bad(call, ["day", "over", thing, thing, "no"], 2)
            self.assert_bad(call, "day", -1)
            self.assert_bad(call, {"day": 1}, -1)
            self.assert_bad(call, ["day"] * 299 + ["night"], 299)
            self.assert_bad(call, ["night", None], 0)

    def assert_bad(self, call, row, index):
        with self.assertRaises(BadRow) as caught:
            call(rent(), row)
        self.assertEqual(caught.exception.index, index)
        self.assertIs(type(caught.exception.index), int)

    def test_the_row_is_not_changed(self):
        row = ["day", "over", "day"]
        posts = wisest(rent(), row)[1]
        items = floor(rent(), row)
        items.clear()
        is_floor(rent(), row, 0, floor(rent(), row))
        self.assertEqual(row, ["day", "over", "day"])
        self.assertEqual(wisest(rent(), row)[1], posts)
        self.assertEqual(len(floor(rent(), row)), 4)


class FloorTest(unittest.TestCase):
    def test_floors_by_each_clause(self):
        systems = [rent(), pages(), detour(), single()] + [one[0] for one in made(4, 20, most_posts=4)]
        for system in systems:
            for row in rows_of(system, 3):
                thing = floor(system, row)
                self.assertIsInstance(thing, list)
                self.assertEqual([len(items) for items in thing], [system.posts] * (len(row) + 1))
                for items in thing:
                    self.assertIsInstance(items, tuple)
                    self.assertTrue(all(type(item) is int for item in items))
                price = min(slow_prices(system, row).values())
                self.assertEqual(thing[0][0], price)
                self.assertTrue(slow_is_floor(system, row, price, thing))
                self.assertIs(is_floor(system, row, price, thing), True)
                self.assertIs(is_floor(system, row, price - 1, thing), True)
                self.assertIs(is_floor(system, row, price + 1, thing), False)
                self.assertIs(is_floor(system, row, price, tuple(thing)), True)

    def test_spoiled_numbers(self):
        for system, row in ((rent(), ["day", "over", "day"]), (detour(), ("in", "out", "up", "in"))):
            good = floor(system, row)
            price = good[0][0]
            for k, items in enumerate(good):
                for post, item in enumerate(items):
                    for number in (item + 1, item - 1, item + GREAT, item - GREAT, 0, 1):
                        thing = list(replaced(good, k, replaced(items, post, number)))
                        right = slow_is_floor(system, row, price, thing)
                        self.assertIs(is_floor(system, row, price, thing), right)
                        lesser = slow_is_floor(system, row, price - 1, thing)
                        self.assertIs(is_floor(system, row, price - 1, thing), lesser)

    def test_too_much_at_any_place(self):
        system, row = detour(), ("in", "out", "up", "in")
        flat = [(0, 0, 0)] * 5
        self.assertIs(is_floor(system, row, 0, flat), True)
        for k in range(5):
            for post in range(3):
                thing = list(replaced(flat, k, replaced(flat[k], post, GREAT)))
                self.assertIs(is_floor(system, row, 0, thing), False)
                thing = list(replaced(flat, k, replaced(flat[k], post, -GREAT)))
                self.assertIs(is_floor(system, row, -GREAT, thing), slow_is_floor(system, row, -GREAT, thing))

    def test_spoiled_kinds(self):
        row = ["over", "day"]
        good = [(0, 0), (0, 0), (0, 0)]
        self.assertIs(is_floor(rent(), row, 0, good), True)
        for k in range(3):
            for post in range(2):
                for thing in objects() + [True, False, None]:
                    if type(thing) is not int:
                        spoiled = list(replaced(good, k, replaced(good[k], post, thing)))
                        self.assertIs(is_floor(rent(), row, -GREAT, spoiled), False)
            for items in objects() + [[0, 0], (0,), (0, 0, 0), ()]:
                if items not in ((0, 0), (1, 1)):
                    spoiled = list(replaced(good, k, items))
                    self.assertIs(is_floor(rent(), row, -GREAT, spoiled), False)

    def test_too_few_and_too_many(self):
        row = ["over", "day"]
        for many in range(6):
            self.assertIs(is_floor(rent(), row, 0, [(0, 0)] * many), many == 3)
            self.assertIs(is_floor(rent(), row, 0, ((0, 0),) * many), many == 3)
            self.assertIs(is_floor(rent(), [], 0, [(0, 0)] * many), many == 1)

    def test_only_the_last_tuple_is_bounded_by_0(self):
        self.assertIs(is_floor(rent(), [], 0, [(0, 0)]), True)
        self.assertIs(is_floor(rent(), [], 0, [(0, 1)]), False)
        self.assertIs(is_floor(rent(), [], -5, [(-5, -7)]), True)
        self.assertIs(is_floor(rent(), [], 0, [(-5, -7)]), False)
        self.assertIs(is_floor(rent(), ["day"], 1, [(1, 0), (0, 0)]), True)

    def test_any_object(self):
        for thing in objects():
            self.assertIs(is_floor(rent(), ["day"], 0, thing), False)
            self.assertIs(is_floor(rent(), ["day"], 0, [thing, thing]), thing == (0, 0))

    def test_floors_are_new_each_time(self):
        one = floor(rent(), ["day", "day"])
        one[0] = None
        del one[1]
        self.assertIs(is_floor(rent(), ["day", "day"], 2, floor(rent(), ["day", "day"])), True)
        self.assertIsNot(floor(rent(), []), floor(rent(), []))


if __name__ == "__main__":
    unittest.main()
