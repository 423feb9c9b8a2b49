"""Plays of few rounds (14)."""

from hintslie.checks import check_fractions, check_terms
from hintslie.errors import BadNumber
from hintslie.graphs import Graph
from hintslie.habits import check_style
from hintslie.kinds import is_below
from hintslie.solving import answer_costs, promises
from hintslie.steps import Steps
from hintslie.terms import lowest, units, weight, worths
from hintslie.views import first_view

MOST_ROUNDS = 50


def _check_rounds(thing):
    if not is_below(thing, MOST_ROUNDS + 1):
        raise BadNumber()


def _layers(graph, worth, many):
    """For 0, 1, .. many rounds what an asker reaches in at most so many, at each view that comes with so many left.

    At the views behind, which come later, it says nothing.
    """
    costs = answer_costs(graph, worth)
    lies = (0, weight(worth, 0, 0, 1))
    layers = [[0] * len(graph.views)]
    for left in range(1, many + 1):
        # A graph that has all views has no more of them within more rounds.
        count = graph.within[min(many - left, len(graph.within) - 1)]
        promised = promises(costs, layers[-1])
        reached = [
            max([0] + [promised[answered] + lies[lie] for _, lie, answered in rounds])
            for rounds in graph.rounds[:count]
        ]
        layers.append(reached + [0] * (len(graph.views) - count))
    return layers


def rounds_sum(system, machine, mode, share, charge, many):
    """The least fixed sum with which some player keeps the terms in plays of at most so many rounds."""
    check_terms(system, machine, mode, share, charge)
    _check_rounds(many)
    graph = Graph(Steps(system, machine, mode), first_view(system), many)
    return lowest(_layers(graph, worths(share, charge), many)[many][0], units(share, charge))


def _best_ask(graph, worth, view, numbers, reached):
    """The pair (ask, view behind) of the first ask at the view whose only answer reaches just so much."""
    for ask, lie, answered in graph.rounds[view]:
        rise, served = graph.answers[answered]
        _, price, behind = served[0]
        if weight(worth, price, rise, lie) + numbers[behind] == reached:
            return ask, behind
    return None


def cruelest(system, machine, mode, style, share, charge, many):
    """The greatest balance of a player of the style in at most so many rounds, and a shortest row of asks to it."""
    check_style(system, machine, mode, style)
    check_fractions(share, charge)
    _check_rounds(many)
    graph = Graph(Steps(system, machine, mode), first_view(system), many, style)
    worth = worths(share, charge)
    layers = _layers(graph, worth, many)
    reached = [numbers[0] for numbers in layers]
    # In less rounds than these so much is not reached, so each of them counts.
    left = reached.index(reached[many])
    view = 0
    asks = []
    while left > 0:
        ask, view = _best_ask(graph, worth, view, layers[left - 1], layers[left][view])
        asks.append(ask)
        left -= 1
    return lowest(reached[many], units(share, charge)), tuple(asks)
