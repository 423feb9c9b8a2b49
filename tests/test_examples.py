"""The examples of the document."""

import unittest

from hintslie.builds import renting, rooms
from hintslie.knowledge import after_request
from hintslie.machines import free_machine
from hintslie.shares import least_share
from hintslie.styles import style_post
from hintslie.tables import kept
from hintslie.texts import machine_text
from hintslie.views import first_view
from hintslie.wisest import wisest


class ExamplesTest(unittest.TestCase):
    def test_e01(self):
        self.assertEqual(renting(2).requests, {"day": (1, 0), "over": (0, None)})

    def test_e02(self):
        self.assertEqual(wisest(renting(2), ["day", "day", "day"]), (2, (1, 1, 1)))

    def test_e03(self):
        self.assertEqual(after_request(renting(2), (0, 2), "day"), ((0, 1), 1))

    def test_e04(self):
        self.assertEqual(first_view(renting(2)), (0, 0, (0, 2), None))

    def test_e05(self):
        self.assertEqual(least_share(renting(2), free_machine(renting(2)), "none", (0, 1)), (3, 2))

    def test_e06(self):
        self.assertIs(kept(renting(2), free_machine(renting(2)), "none", (1, 1), (0, 1)), False)

    def test_e07(self):
        view = (0, 0, (0, 2), None)
        self.assertEqual(style_post(renting(2), free_machine(renting(2)), "none", "near", view, ("day", None)), 0)

    def test_e08(self):
        system = rooms(1, 2)
        self.assertEqual(least_share(system, free_machine(system), "none", (0, 1)), (1, 1))

    def test_e09(self):
        self.assertEqual(machine_text(free_machine(renting(2))), "state day:0 over:0\n")


if __name__ == "__main__":
    unittest.main()
