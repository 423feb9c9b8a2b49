"""The border: for each charge the least share, in the mode free (6.6)."""

from hintslie.arcs import arcs_of_posts, posts_within
from hintslie.checks import check_mode
from hintslie.circles import circle_sums, cleared
from hintslie.climbing import Climb
from hintslie.terms import NOTHING, charge_line, lowest, share_line, turned_about, worths_at
from hintslie.views import graph_of


def _near(graph, charge):
    """A charge a little above this one, so little that nothing changes from there to it.

    A circle of a price, a rise and lies tells the share (price - charge * lies) / rise. What is least changes only
    where two such lines meet, or where a circle without a rise begins or ends to grow: the bottoms of these charges
    are at most the lies of one circle times the rise of another one, and no circle has a view twice.
    """
    views = len(graph.views)
    rises = [rise for rise, _ in graph.answers]
    finest = views * views * max(1, max(rises)) + 1
    top, bottom = charge
    return top * finest + 1, bottom * finest


class Piece:
    """The straight piece of the border from a charge on, that is not the last one.

    `price`, `rise` and `lies` are those of a circle that tells its shares. Up to `end`, a charge above, one
    player keeps them, and one way of asking shows that none keeps lesser ones; `last` are the charge and the share
    at which the last piece begins.
    """

    def __init__(self, graph, charge, last, arcs):
        self.charge = charge
        line = share_line(_near(graph, charge))
        climb = Climb(graph, line, last[1], arcs)
        self.arcs = climb.arcs
        self.price, self.rise, self.lies = circle_sums(climb.arcs, climb.circle)
        along = (self.rise, -self.price, 0), (0, self.lies, -self.rise)
        end, _ = cleared(climb.arcs, along, last[0])
        posts = posts_within(graph, worths_at(line, climb.place), climb.numbers)
        self.end, _ = cleared(arcs_of_posts(graph, posts), turned_about(along), end)

    def goes_on(self, other):
        """Whether it is straight on behind the other one."""
        return self.price * other.rise == other.price * self.rise and self.lies * other.rise == other.lies * self.rise

    def told(self):
        """The tuple (charge, share, fall)."""
        top, bottom = self.charge
        share = lowest(self.price * bottom - self.lies * top, self.rise * bottom)
        return self.charge, share, lowest(self.lies, self.rise)


def border(system, machine):
    """The list of the pieces of the border."""
    check_mode(system, machine, "free")
    graph = graph_of(system, machine, "free")
    share = Climb(graph_of(system, machine, "true"), share_line(NOTHING), NOTHING).place
    last = Climb(graph, charge_line(share), NOTHING).place
    pieces = []
    arcs = None
    charge = NOTHING
    while charge != last:
        piece = Piece(graph, charge, (last, share), arcs)
        arcs = piece.arcs
        if len(pieces) == 0 or not piece.goes_on(pieces[-1]):
            pieces.append(piece)
        charge = piece.end
    return [piece.told() for piece in pieces] + [(last, share, NOTHING)]
