"""The graph of the views that come (4.5)."""

from hintslie.errors import TooMany
from hintslie.steps import lie_told

MOST_VIEWS = 1000


class Graph:
    """All views that come from a first one, each under a number, the first one under 0.

    `views[k]` is the view of the number k. `rounds[k]` has a tuple (ask, lie, number) for each ask there, and
    `answers[number]` is a tuple (rise, served) with a tuple (post, price, number of the view behind) in served for
    each post at which it can be served. The open hint tells on the lie alone, so views that differ in it share
    their answers. `steps` are those that lead from view to view. Raises TooMany(1000) if there are more views.
    """

    def __init__(self, steps, first):
        self.steps = steps
        self.views = [first]
        self.rounds = []
        self.answers = []
        self._numbers = {first: 0}
        self._shared = {}
        while len(self.rounds) < len(self.views):
            view = self.views[len(self.rounds)]
            self.rounds.append([(ask, lie_told(view, ask), self._answered(view, ask)) for ask in steps.asks_at(view)])

    def _answered(self, view, ask):
        """The number of the answers to the ask at the view, and at those that differ in the open hint."""
        key = (view[:3], ask)
        if key not in self._shared:
            rise = 0
            served = []
            for post in self.steps.posts_for(ask[0]):
                behind, price, rise, _ = self.steps.answered_at(view, ask, post)
                served.append((post, price, self._number(behind)))
            self._shared[key] = len(self.answers)
            self.answers.append((rise, served))
        return self._shared[key]

    def _number(self, view):
        """The number of the view, which is put behind the others if it is new."""
        if view not in self._numbers:
            if len(self.views) == MOST_VIEWS:
                raise TooMany(MOST_VIEWS)
            self._numbers[view] = len(self.views)
            self.views.append(view)
        return self._numbers[view]
