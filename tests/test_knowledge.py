import random
import unittest

from helpers import GREAT, detour, made, objects, pages, rent, replaced, single, slow_prices, slow_way
from hintslie.errors import BadOffsets, NoRequest
from hintslie.knowledge import after_request, first_offsets
from hintslie.wisest import wisest


def right_offsets(system, thing):
    """The clauses of offsets, of a tuple of integers for each post."""
    posts = range(system.posts)
    return min(thing) == 0 and all(thing[b] <= thing[a] + slow_way(system.moves, a, b) for a in posts for b in posts)


def raw(system, offsets, name):
    prices = system.requests[name]
    posts = range(system.posts)
    return [
        min(offsets[a] + prices[a] + slow_way(system.moves, a, b) for a in posts if prices[a] is not None)
        for b in posts
    ]


def come(system, many, seed=8):
    """Offsets that come of rows of requests."""
    chance = random.Random(seed)
    found = [first_offsets(system)]
    for _ in range(many):
        found.append(after_request(system, found[-1], chance.choice(system.names))[0])
    return found


def systems():
    return [rent(), pages(), detour(), single()] + [one[0] for one in made(6, 20, most_posts=4, most=9)]


class FirstOffsetsTest(unittest.TestCase):
    def test_ways_from_post_0(self):
        self.assertEqual(first_offsets(rent()), (0, 2))
        self.assertEqual(first_offsets(detour()), (0, 1, 2))
        self.assertEqual(first_offsets(single()), (0,))
        for system in systems():
            offsets = first_offsets(system)
            self.assertIsInstance(offsets, tuple)
            self.assertEqual(list(offsets), [slow_way(system.moves, 0, b) for b in range(system.posts)])
            self.assertTrue(right_offsets(system, offsets))


class AfterRequestTest(unittest.TestCase):
    def test_example(self):
        self.assertEqual(after_request(rent(), (0, 2), "day"), ((0, 1), 1))

    def test_beside_raw(self):
        for system in systems():
            for offsets in come(system, 12):
                for name in system.names:
                    costs = raw(system, offsets, name)
                    result = after_request(system, offsets, name)
                    self.assertEqual(result, (tuple(cost - min(costs) for cost in costs), min(costs)))
                    self.assertIsInstance(result, tuple)
                    self.assertIsInstance(result[0], tuple)
                    self.assertTrue(right_offsets(system, result[0]))

    def test_all_offsets(self):
        system = detour()
        for a in range(8):
            for b in range(8):
                for c in range(8):
                    if right_offsets(system, (a, b, c)):
                        costs = raw(system, (a, b, c), "out")
                        self.assertEqual(after_request(system, (a, b, c), "out")[1], min(costs))
                    else:
                        self.assert_bad(system, (a, b, c))

    def assert_bad(self, system, offsets):
        with self.assertRaises(BadOffsets):
            after_request(system, offsets, system.names[0])

    def test_bad_offsets(self):
        system = detour()
        good = first_offsets(system)
        for thing in objects():
            self.assert_bad(system, thing)
            for post in range(3):
                if type(thing) is not int:
                    self.assert_bad(system, replaced(good, post, thing))
        for offsets in [list(good), good[:2], good + (0,), good + (2,), (), (1, 1, 1), (1, 2, 3), (GREAT,) * 3,
                        (0, GREAT, 0), (0, 1, GREAT), (GREAT, 0, 1), (0, 2, 2), (0, 1, 3), (-1, 0, 1), (0, -GREAT, 0),
                        (False, 1, 2), (0, True, 2), "012", {0: 0, 1: 1, 2: 2}]:
            self.assert_bad(system, offsets)
        self.assertEqual(after_request(system, good, "up"), ((0, 1, 2), 2))

    def test_the_way_counts_not_the_step(self):
        moves = detour().moves
        self.assertEqual(moves[0][2], 9)
        self.assert_bad(detour(), (0, 1, 3))
        self.assertEqual(after_request(detour(), (0, 1, 2), "in"), ((1, 0, 1), 1))

    def test_single_post(self):
        self.assertEqual(after_request(single(), (0,), "y"), ((0,), 3))
        for offsets in ((1,), (False,), (GREAT,), (-1,), (), (0, 0)):
            self.assert_bad(single(), offsets)

    def test_no_request(self):
        for thing in objects() + ["days", "da", "Day", ("day",), ["day"]]:
            if thing != "day":
                with self.assertRaises(NoRequest) as caught:
                    after_request(rent(), (0, 2), thing)
                self.assertIs(caught.exception.name, thing)
                with self.assertRaises(BadOffsets):
                    after_request(rent(), (0, 3), thing)
        self.assertEqual(after_request(rent(), (0, 2), "over"), ((0, 2), 0))


class FactsTest(unittest.TestCase):
    def test_rises_and_offsets_of_rows(self):
        chance = random.Random(9)
        for system in systems():
            for many in (0, 1, 2, 3, 4):
                row = [chance.choice(system.names) for _ in range(many)]
                offsets, total = first_offsets(system), 0
                for name in row:
                    offsets, rise = after_request(system, offsets, name)
                    total += rise
                self.assertEqual(total, wisest(system, row)[0])
                prices = slow_prices(system, row)
                for post in range(system.posts):
                    least = min(
                        price + slow_way(system.moves, ((0,) + posts)[-1], post) for posts, price in prices.items()
                    )
                    self.assertEqual(offsets[post], least - total)

    def test_rises_of_long_rows(self):
        chance = random.Random(10)
        for system in systems():
            row = [chance.choice(system.names) for _ in range(300)]
            offsets, total = first_offsets(system), 0
            for name in row:
                offsets, rise = after_request(system, offsets, name)
                total += rise
            self.assertEqual(total, wisest(system, row)[0])


if __name__ == "__main__":
    unittest.main()
