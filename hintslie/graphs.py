"""The graph of the views that come (4.5), of all or of those within some rounds (14)."""

from hintslie.errors import TooMany
from hintslie.habits import chosen_post
from hintslie.steps import lie_told

MOST_VIEWS = 1000


class Graph:
    """All views that come from a first one, each under a number, the first one under 0.

    `views[k]` is the view of the number k. `rounds[k]` has a tuple (ask, lie, number) for each ask there, and
    `answers[number]` is a tuple (rise, served) with a tuple (post, price, number of the view behind) in served for
    each post at which it can be served. The open hint tells on the lie alone, so views that differ in it share
    their answers. `steps` are those that lead from view to view. Raises TooMany(1000) if there are more views.

    If many is told, these are the views that come within so many rounds, and only those that come within one round
    less have rounds. If a style is told, they are those to which its player comes, and the only answer to an ask is
    the one of this player. `within[k]` is how many of the views, the first ones, come within k rounds.
    """

    def __init__(self, steps, first, many=None, style=None):
        self.steps = steps
        self.style = style
        self.views = [first]
        self.within = [1]
        self.rounds = []
        self.answers = []
        self._numbers = {first: 0}
        self._shared = {}
        while len(self.rounds) < len(self.views) and (many is None or len(self.within) <= many):
            self._go_on()
            self.within.append(len(self.views))

    def _go_on(self):
        """Go through the views that are met, but not gone through."""
        met = self.views[len(self.rounds):]
        for view in met:
            asks = self.steps.asks_at(view)
            self.rounds.append([(ask, lie_told(view, ask), self._answered(view, ask)) for ask in asks])

    def _posts(self, view, ask):
        """The posts of the answers to the ask."""
        if self.style is None:
            return self.steps.posts_for(ask[0])
        return [chosen_post(self.steps, self.style, view, ask)]

    def _answered(self, view, ask):
        """The number of the answers to the ask at the view, and at those that differ in the open hint."""
        key = (view[:3], ask)
        if key not in self._shared:
            rise = 0
            served = []
            for post in self._posts(view, ask):
                behind, price, rise, _ = self.steps.answered_at(view, ask, post)
                served.append((post, price, self._number(behind)))
            self._shared[key] = len(self.answers)
            self.answers.append((rise, served))
        return self._shared[key]

    def _number(self, view):
        """The number of the view, which is put behind the others if it is new."""
        if view not in self._numbers:
            if len(self.views) == MOST_VIEWS:
                raise TooMany(MOST_VIEWS)
            self._numbers[view] = len(self.views)
            self.views.append(view)
        return self._numbers[view]
