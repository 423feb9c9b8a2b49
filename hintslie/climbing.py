"""The least place on a line of terms at which they are kept."""

from hintslie.arcs import arcs_of_asks
from hintslie.circles import cleared, least_sums, stricter, weighed
from hintslie.solving import Contest
from hintslie.terms import BEYOND, worths_at


def _all_grow(arcs, worth):
    """Whether all circles of the arcs have a weight above 0."""
    _, circle = least_sums(stricter(weighed(arcs, worth), len(arcs) + 1))
    return circle is None


class Climb:
    """A way up a line of terms that are the easier to keep the farther up, to the first place at which they are.

    `place` is this place, BEYOND if there is none. Where they are not kept, the asker has asks by which all
    circles grow; the least place at which one of them does not grow is the next to be tried, and no lesser one
    is kept. `arcs` are the arcs of the last such asks and `choices` the asks (see Contest), `circle` is a
    circle of arcs that does not grow any more at the place; they are None if the first place tried is kept.
    `numbers` are the least numbers of a table at the place, None if there is none.

    Arcs of asks from elsewhere may be given to begin with: where they do as well, they spare some places.
    """

    def __init__(self, graph, line, place, arcs=None):
        self.graph = graph
        self.line = line
        self.place = place
        self.arcs = self.choices = self.circle = self.numbers = None
        if arcs is not None and _all_grow(arcs, worths_at(line, place)):
            self._go_on(arcs)
        while self.place != BEYOND and not self._is_kept():
            self._go_on(arcs_of_asks(graph, self.choices))

    def _go_on(self, arcs):
        """Go to the least place at which a circle of the arcs does not grow."""
        self.arcs = arcs
        self.place, self.circle = cleared(arcs, self.line, BEYOND)

    def _is_kept(self):
        """Whether the terms are kept at the place; takes over the numbers or the asks that show it."""
        done = Contest(self.graph, worths_at(self.line, self.place))
        if done.numbers[0] is None:
            self.choices = done.choices
            return False
        self.numbers = done.numbers
        return True
