"""Liar's tables: they show that terms are not kept (5.3, 5.4)."""

from hintslie.arcs import arcs_of_asks
from hintslie.checks import check_terms
from hintslie.circles import least_sums, stricter, weighed
from hintslie.kinds import is_integer, is_tuple_of
from hintslie.proofs import is_proof
from hintslie.solving import contest
from hintslie.steps import Steps
from hintslie.terms import weight, worths


def liar(system, machine, mode, share, charge):
    """A liar's table, or None if the terms are kept."""
    done = contest(system, machine, mode, share, charge)
    if done.numbers[0] is not None:
        return None
    graph = done.graph
    arcs = arcs_of_asks(graph, done.choices)
    views = [view for view, out in enumerate(arcs) if len(out) > 0]
    # Each circle has a weight from 1 on, so none is below 0 when M times the weight, less 1, is taken.
    numbers, _ = least_sums(stricter(weighed(arcs, worths(share, charge)), len(views) + 1))
    return {graph.views[view]: (numbers[view], graph.rounds[view][done.choices[view]][0]) for view in views}


def _is_entry(steps, view, thing):
    """Whether a thing is a pair of an integer and an ask at the view."""
    return is_tuple_of(thing, 2) and is_integer(thing[0]) and thing[1] in steps.asks_at(view)


def is_liar(system, machine, mode, share, charge, thing):
    """Whether a thing is a liar's table for the terms."""
    check_terms(system, machine, mode, share, charge)
    steps = Steps(system, machine, mode)
    worth = worths(share, charge)

    def holds(view):
        """Whether each answer to the ask at the view makes the balance grow as told."""
        most = len(thing) + 1
        number, ask = thing[view]
        return all([
            behind in thing and number <= most * weight(worth, price, rise, lie) - 1 + thing[behind][0]
            for behind, price, rise, lie in steps.results(view, ask)
        ])

    return is_proof(steps, thing, _is_entry, holds)
