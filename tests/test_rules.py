import random
import unittest
from fractions import Fraction

from helpers import (
    GREAT, MODES, fraction, line, no_views, objects, pages, pair, rent, replaced, served_posts, slope, weight,
)
from hintslie.errors import BadFraction, BadMode, NotKept, TooMany, Unsuited
from hintslie.machines import Machine, free_machine
from hintslie.rules import is_rule, rule
from hintslie.shares import least_share
from hintslie.systems import System
from hintslie.tables import kept, table
from hintslie.views import answered, asks, first_view
from test_shares import drawn, drawn_charges
from test_tables import NO_FRACTIONS
from test_views import JUST_LET, JUST_TOO_MANY, NO_MODES, STRANGE

CASES = [
    (rent(), free_machine(rent()), "none", (3, 2), (0, 1)), (rent(), line(), "free", (4, 3), (2, 3)),
    (pages(), free_machine(pages()), "true", (2, 1), (0, 1)), (slope(), free_machine(slope()), "free", (3, 2), (1, 2)),
    (rent(), free_machine(rent()), "true", (1, 1), (0, 1)),
]


def keeps(system, machine, mode, share, charge, thing):
    """Whether a dict of right pairs and posts is a rule that keeps the terms, play by play."""
    graph = {}
    todo = [first_view(system)]
    while todo:
        view = todo.pop()
        if view in graph:
            continue
        graph[view] = []
        for ask in asks(system, machine, mode, view):
            if (view, ask) not in thing or thing[view, ask] not in served_posts(system, ask[0]):
                return False
            graph[view].append(answered(system, machine, mode, view, ask, thing[view, ask]))
        todo.extend(result[0] for result in graph[view])
    reached = {view: 0 for view in graph}
    for _ in range(len(graph) + 1):
        after = {
            view: max([0] + [weight(share, charge, result) + reached[result[0]] for result in graph[view]])
            for view in graph
        }
        if after == reached:
            return True
        reached = after
    return False


def drawn_cases(seed, many):
    """Cases with terms that are kept, at the least share or a little above."""
    charges = drawn_charges(seed)
    found = []
    for system, machine, mode in drawn(seed + 1, many):
        charge = next(charges)
        least = fraction(least_share(system, machine, mode, charge))
        for more in (0, Fraction(1, 7)):
            found.append((system, machine, mode, pair(least + more), charge))
    return found


class RuleTest(unittest.TestCase):
    def test_the_first_post_within_the_numbers(self):
        later = 0
        for case in CASES + drawn_cases(200, 60):
            system, machine, mode, share, charge = case
            found = rule(*case)
            numbers = table(*case)
            self.assertIs(type(found), dict)
            told = {}
            for view in numbers:
                for ask in asks(system, machine, mode, view):
                    for post in served_posts(system, ask[0]):
                        result = answered(system, machine, mode, view, ask, post)
                        if weight(share, charge, result) + numbers[result[0]] <= numbers[view]:
                            told[view, ask] = post
                            later += post != served_posts(system, ask[0])[0]
                            break
            self.assertEqual(found, told)
            self.assertTrue(all(type(post) is int for post in found.values()))
            self.assertTrue(keeps(*case, found))
            self.assertIs(is_rule(*case, found), True)
        self.assertGreater(later, 50)

    def test_not_kept(self):
        for case in CASES:
            less = (*case[:3], (1, 2), case[4])
            self.assertIs(kept(*less), False)
            with self.assertRaises(NotKept):
                rule(*less)

    def test_the_order_of_keys_means_nothing(self):
        other_rent = System(((0, 2), (0, 0)), {"over": (0, None), "day": (1, 0)})
        other_line = Machine(({"over": 1, "day": 0}, {"day": 2}, {"over": 0, "day": 2}))
        for mode in MODES:
            terms = (mode, (2, 1), (1, 2))
            self.assertEqual(rule(other_rent, other_line, *terms), rule(rent(), line(), *terms))

    def test_what_was_returned_may_be_changed(self):
        for case in CASES:
            found = rule(*case)
            first = dict(found)
            found.clear()
            self.assertEqual(rule(*case), first)

    def test_many_views(self):
        for mode, moves, requests in JUST_LET:
            system = System(moves, requests)
            case = (system, free_machine(system), mode, (9, 1), (1, 3))
            found = rule(*case)
            self.assertIs(is_rule(*case, found), True)
            self.assertTrue(keeps(*case, found))


class IsRuleTest(unittest.TestCase):
    def test_drawn_rules(self):
        told = [0, 0]
        chance = random.Random(210)
        for case in CASES + drawn_cases(211, 25):
            system, machine, mode, _, _ = case
            least = rule(*case)
            for often in (0.02, 0.1, 0.3, 1.0):
                thing = {
                    (view, ask): chance.choice(served_posts(system, ask[0])) if chance.random() < often else post
                    for (view, ask), post in least.items()
                }
                for share in (case[3], (case[3][0] + case[3][1], case[3][1])):
                    other = (system, machine, mode, share, case[4])
                    right = keeps(*other, thing)
                    self.assertIs(is_rule(*other, thing), right)
                    told[right] += 1
        self.assertGreater(min(told), 30)

    def test_other_ways_to_keep_the_terms(self):
        # To buy at once keeps 2 / 1, to buy at the second day as well.
        machine = free_machine(rent())
        least = rule(rent(), machine, "none", (3, 2), (0, 1))
        at_once = {(view, ask): 1 if ask[0] == "day" else 0 for view, ask in least}
        never = {(view, ask): 0 for view, ask in least}
        for thing, share, right in (
            (at_once, (2, 1), True), (at_once, (199, 100), False), (never, (99, 1), False), (least, (3, 2), True),
            (least, (2, 1), True), (least, (149, 100), False),
        ):
            self.assertIs(is_rule(rent(), machine, "none", share, (0, 1), thing), right)
            self.assertIs(keeps(rent(), machine, "none", share, (0, 1), thing), right)

    def test_further_pairs_do_not_matter(self):
        case = CASES[0]
        found = rule(*case)
        view = (0, 1, (0, 2), None)
        for post in (0, 1):
            more = {**found, (view, ("day", None)): post, (view, ("over", None)): post}
            self.assertIs(is_rule(*case, more), True)
        for thing in (2, -1, True, False, None, "0", (0,), [], GREAT, rent()):
            self.assertIs(is_rule(*case, {**found, (view, ("day", None)): thing}), False)

    def test_posts_at_which_it_cannot_be_served(self):
        for case in CASES[:2]:
            found = rule(*case)
            for key in found:
                if key[1][0] == "over":
                    spoiled = {**found, key: 1}
                    self.assertIs(is_rule(*case, spoiled), keeps(*case, spoiled))
        case = CASES[0]
        key = ((0, 0, (0, 2), None), ("over", None))
        self.assertIs(is_rule(*case, {**rule(*case), key: 1}), False)

    def test_asks_left_out(self):
        told = [0, 0]
        for case in CASES:
            found = rule(*case)
            for key in found:
                spoiled = {other: found[other] for other in found if other != key}
                right = keeps(*case, spoiled)
                self.assertIs(is_rule(*case, spoiled), right)
                told[right] += 1
            self.assertIs(is_rule(*case, {}), False)
        self.assertGreater(min(told), 3)

    def test_pairs_that_are_none(self):
        for case in CASES:
            found = rule(*case)
            first = first_view(case[0])
            ask = asks(*case[:3], first)[0]
            for key in no_views(first):
                self.assertIs(is_rule(*case, {**found, (key, ask): 0}), False)
                self.assertIs(is_rule(*case, {**found, key: 0}), False)
            for key in ((first, ask, 0), (first,), (ask, first), (first, None), (first, ask[:1]), (first, ask + (0,)),
                        (first, ("mist", ask[1])), (first, (ask[0], "mist")), (first, (ask[0], 0))):
                self.assertIs(is_rule(*case, {**found, key: 0}), False)

    def test_values_that_are_no_posts(self):
        for case in CASES:
            found = rule(*case)
            for key, post in list(found.items())[::3]:
                for thing in objects() + [bool(post), 9, -1, case[0].posts, str(post), (post,), [post]]:
                    spoiled = {**found, key: thing}
                    right = type(thing) is int and 0 <= thing < case[0].posts and keeps(*case, spoiled)
                    self.assertIs(is_rule(*case, spoiled), right)

    def test_flags_inside_keys(self):
        for case in CASES:
            found = rule(*case)
            for view, ask in found:
                rest = {key: found[key] for key in found if key != (view, ask)}
                for index in (0, 1):
                    if view[index] in (0, 1):
                        key = (replaced(view, index, bool(view[index])), ask)
                        spoiled = {**rest, key: found[view, ask]}
                        self.assertEqual(spoiled, found)
                        self.assertIs(is_rule(*case, spoiled), False)

    def test_any_object(self):
        for case in CASES:
            for thing in objects():
                self.assertIs(is_rule(*case, thing), False)
            self.assertIs(is_rule(*case, list(rule(*case).items())), False)
            self.assertIs(is_rule(*case, table(*case)), False)

    def test_what_was_passed_stays(self):
        for case in CASES:
            found = rule(*case)
            first = list(found.items())
            is_rule(*case, found)
            self.assertEqual(list(found.items()), first)
            self.assertIs(is_rule(*case, dict(reversed(first))), True)


class ErrorsTest(unittest.TestCase):
    def test_in_their_order(self):
        mode, moves, requests = JUST_TOO_MANY[0]
        system = System(moves, requests)
        machine = free_machine(system)
        with self.assertRaises(Unsuited) as caught:
            rule(rent(), STRANGE, "no", (2, 2), (0, 1))
        self.assertEqual(caught.exception.name, "mist")
        for call, more in ((rule, ()), (is_rule, (None,))):
            with self.assertRaises(TooMany) as caught:
                call(system, machine, mode, (0, 1), (0, 1), *more)
            self.assertEqual(caught.exception.most, 1000)
        with self.assertRaises(BadMode):
            rule(system, machine, "no", (2, 2), (0, 1))
        with self.assertRaises(BadFraction):
            rule(system, machine, mode, (2, 2), (0, 1))
        with self.assertRaises(Unsuited):
            is_rule(rent(), STRANGE, "none", (1, 1), (0, 1), None)

    def test_any_object(self):
        for thing in objects() + NO_MODES:
            with self.assertRaises(BadMode):
                rule(rent(), line(), thing, (2, 1), (0, 1))
        for thing in NO_FRACTIONS + [thing for thing in objects() if thing != (1, 1)]:
            with self.assertRaises(BadFraction):
                rule(rent(), line(), "free", thing, (0, 1))
            with self.assertRaises(BadFraction):
                rule(rent(), line(), "free", (2, 1), thing)


if __name__ == "__main__":
    unittest.main()
