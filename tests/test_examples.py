"""The examples of the document that have landed; rent is built by hand here."""

import unittest

from helpers import rent
from hintslie.knowledge import after_request
from hintslie.machines import free_machine
from hintslie.shares import least_share
from hintslie.styles import style_post
from hintslie.tables import kept
from hintslie.views import first_view
from hintslie.wisest import wisest


class ExamplesTest(unittest.TestCase):
    def test_e01(self):
        self.assertEqual(rent().requests, {"day": (1, 0), "over": (0, None)})

    def test_e02(self):
        self.assertEqual(wisest(rent(), ["day", "day", "day"]), (2, (1, 1, 1)))

    def test_e03(self):
        self.assertEqual(after_request(rent(), (0, 2), "day"), ((0, 1), 1))

    def test_e04(self):
        self.assertEqual(first_view(rent()), (0, 0, (0, 2), None))

    def test_e05(self):
        self.assertEqual(least_share(rent(), free_machine(rent()), "none", (0, 1)), (3, 2))

    def test_e06(self):
        self.assertIs(kept(rent(), free_machine(rent()), "none", (1, 1), (0, 1)), False)

    def test_e07(self):
        view = (0, 0, (0, 2), None)
        self.assertEqual(style_post(rent(), free_machine(rent()), "none", "near", view, ("day", None)), 0)


if __name__ == "__main__":
    unittest.main()
