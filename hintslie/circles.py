"""Circles of arcs below 0, and where on a line of terms none is any more.

ARCS are a list that has for each view, by its number, a list of tuples (price, rise, lie, number of the view behind).
"""

from hintslie.terms import place_of, weight, worths_at


def weighed(arcs, worth):
    """For each view the pairs (weight, number of the view behind) of its arcs."""
    return [[(weight(worth, price, rise, lie), behind) for price, rise, lie, behind in out] for out in arcs]


def _lowered(weights, sums, taken):
    """Lower the sums wherever an arc leads to a lesser one, and note the arc; whether one was lowered."""
    lowered = False
    for view in reversed(range(len(weights))):
        for index, (cost, behind) in enumerate(weights[view]):
            if cost + sums[behind] < sums[view]:
                sums[view] = cost + sums[behind]
                taken[view] = index
                lowered = True
    return lowered


def _followed(weights, taken, view):
    """The circle of the arcs taken on which the view lies, as pairs (view, index of the arc)."""
    circle = []
    at = view
    while len(circle) == 0 or at != view:
        circle.append((at, taken[at]))
        at = weights[at][taken[at]][1]
    return circle


def _circle(weights, taken):
    """A circle of arcs taken, or None.

    Its weight is below 0: when its last arc was taken, it made a sum less than the one that the others brought round.
    """
    walks = {}
    for start in range(len(taken)):
        view = start
        while view not in walks and taken[view] is not None:
            walks[view] = start
            view = weights[view][taken[view]][1]
        if walks.get(view) == start:
            return _followed(weights, taken, view)
    return None


def least_sums(weights):
    """The pair (sums, circle): for each view the least sum of weights of a walk from there, of any length.

    If a circle has a weight below 0, the sums are unfinished, and circle is one; otherwise it is None.
    """
    sums = [0] * len(weights)
    taken = [None] * len(weights)
    circle = None
    while circle is None and _lowered(weights, sums, taken):
        circle = _circle(weights, taken)
    return sums, circle


def stricter(weights, many):
    """The weights times many, less 1: with many above the number of views, circles that were 0 are below 0 as well."""
    return [[(many * cost - 1, behind) for cost, behind in out] for out in weights]


def circle_sums(arcs, circle):
    """The sums (price, rise, lie) of a circle."""
    told = [arcs[view][index] for view, index in circle]
    return sum([arc[0] for arc in told]), sum([arc[1] for arc in told]), sum([arc[2] for arc in told])


def cleared(arcs, line, place):
    """The pair (place, circle): where on the line no circle is below 0, and the last one that was on the way there.

    The way goes from the place to where the circle found is 0, and on so; the circle is None if none was below 0.
    """
    last = None
    circle = least_sums(weighed(arcs, worths_at(line, place)))[1]
    while circle is not None:
        last = circle
        price, rise, lies = circle_sums(arcs, circle)
        place = place_of(line, price, rise, lies)
        circle = least_sums(weighed(arcs, worths_at(line, place)))[1]
    return place, last
