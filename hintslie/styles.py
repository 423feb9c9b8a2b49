"""Players of the styles: what they keep, and the rounds that are the worst for them (7.1 to 7.3)."""

from hintslie.arcs import way_to
from hintslie.checks import check_fractions
from hintslie.circles import cleared, least_sums, weighed
from hintslie.errors import BadAsk, BadView, NotKept
from hintslie.habits import check_style, chosen_post, gone_through, style_arcs
from hintslie.kinds import is_tuple_of
from hintslie.steps import Steps
from hintslie.terms import BEYOND, NOTHING, lowest, share_line, turned_about, units, weight, worths_at
from hintslie.views import first_view, graph_of


def style_post(system, machine, mode, style, view, ask):
    """The post to which a player of the style goes at the view for the ask."""
    check_style(system, machine, mode, style)
    steps = Steps(system, machine, mode)
    if not steps.is_view(view):
        raise BadView()
    if ask not in steps.asks_at(view):
        raise BadAsk()
    return chosen_post(steps, style, view, ask)


def _worst(system, machine, mode, style, charge):
    """The tuple (graph, arcs, share, circle): the least share of the style, and a circle that shows it.

    The share is BEYOND if there is none. With any lesser share the circle is one in which the balance grows; it is
    None if the least share is 0.
    """
    check_style(system, machine, mode, style)
    check_fractions(charge)
    graph = graph_of(system, machine, mode)
    arcs = style_arcs(graph, style)
    share, circle = cleared(arcs, turned_about(share_line(charge)), NOTHING)
    return graph, arcs, share, circle


def style_share(system, machine, mode, style, charge):
    """The least share that a player of the style keeps with the charge, or None if there is none."""
    _, _, share, _ = _worst(system, machine, mode, style, charge)
    return None if share == BEYOND else share


def style_sum(system, machine, mode, style, share, charge):
    """The least fixed sum with which a player of the style keeps the terms."""
    check_style(system, machine, mode, style)
    check_fractions(share, charge)
    arcs = style_arcs(graph_of(system, machine, mode), style)
    sums, circle = least_sums(weighed(arcs, worths_at(turned_about(share_line(charge)), share)))
    if circle is not None:
        raise NotKept()
    return lowest(-sums[0], units(share, charge))


def _asks_of(graph, walk):
    return tuple([graph.rounds[view][index][0] for view, index in walk])


def worst_round(system, machine, mode, style, charge):
    """A worst round of the style and the charge, or None if the least share of the style is 0."""
    graph, arcs, _, circle = _worst(system, machine, mode, style, charge)
    if circle is None:
        return None
    return _asks_of(graph, way_to(arcs, circle[0][0])), _asks_of(graph, circle)


def is_worst_round(system, machine, mode, style, charge, thing):
    """Whether a thing is a worst round of the style and the charge."""
    graph, _, share, _ = _worst(system, machine, mode, style, charge)
    if not is_tuple_of(thing, 2) or not isinstance(thing[0], tuple) or not isinstance(thing[1], tuple):
        return False
    ahead, circle = thing
    begun, posts, _, _, _ = gone_through(graph.steps, style, first_view(system), ahead)
    if len(circle) == 0 or len(posts) < len(ahead):
        return False
    view, posts, price, rise, lies = gone_through(graph.steps, style, begun, circle)
    if len(posts) < len(circle) or view != begun:
        return False
    # With the share 0 nothing is both above 0 and the share of the rises; BEYOND asks for rises of 0.
    line = share_line(charge)
    gained = weight(worths_at(line, NOTHING), price, rise, lies)
    return gained > 0 and weight(worths_at(line, share), price, rise, lies) == 0
