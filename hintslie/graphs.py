"""The graph of the views that come (4.5)."""

from hintslie.errors import TooMany

MOST_VIEWS = 1000


class Graph:
    """All views that come from a first one, each under a number, the first one under 0.

    `views[k]` is the view of the number k. `rounds[k]` has a tuple (ask, rise, lie, answers) for each ask
    there, and answers a tuple (post, price, number of the view behind) for each post at which it can be served.
    Raises TooMany(1000) if there are more views.
    """

    def __init__(self, steps, first):
        self.views = [first]
        self.rounds = []
        self._steps = steps
        self._numbers = {first: 0}
        while len(self.rounds) < len(self.views):
            view = self.views[len(self.rounds)]
            self.rounds.append([self._round(view, ask) for ask in steps.asks_at(view)])

    def _round(self, view, ask):
        answers = []
        rise = lie = 0
        for post in self._steps.posts_for(ask[0]):
            behind, price, rise, lie = self._steps.answered_at(view, ask, post)
            answers.append((post, price, self._number(behind)))
        return ask, rise, lie, answers

    def _number(self, view):
        """The number of the view, which is put behind the others if it is new."""
        if view not in self._numbers:
            if len(self.views) == MOST_VIEWS:
                raise TooMany(MOST_VIEWS)
            self._numbers[view] = len(self.views)
            self.views.append(view)
        return self._numbers[view]
