"""Presses: they show that no lesser share is kept (6.2, 6.3)."""

from hintslie.checks import check_terms
from hintslie.circles import least_sums, weighed
from hintslie.climbing import Climb
from hintslie.kinds import is_integer, is_natural, is_tuple_of
from hintslie.proofs import is_proof
from hintslie.steps import Steps
from hintslie.terms import NOTHING, share_line, weight, worths
from hintslie.views import graph_of


def _tight(arcs, worth, numbers):
    """For each view the views behind its arcs without a rise that let its number be no greater."""
    return [
        [
            behind for price, rise, lie, behind in out
            if rise == 0 and numbers[view] == weight(worth, price, rise, lie) + numbers[behind]
        ]
        for view, out in enumerate(arcs)
    ]


def press(system, machine, mode, charge):
    """A press for the least share and the charge, or None if the least share is 0."""
    check_terms(system, machine, mode, charge)
    graph = graph_of(system, machine, mode)
    climb = Climb(graph, share_line(charge), NOTHING)
    if climb.place == NOTHING:
        return None
    worth = worths(climb.place, charge)
    # At each lesser share all circles of these arcs grow, so at this one none is below 0, and those at 0 rise:
    # the tight arcs without a rise make no circle, and the longest walk along them ends.
    numbers, _ = least_sums(weighed(climb.arcs, worth))
    falls, _ = least_sums([[(-1, behind) for behind in out] for out in _tight(climb.arcs, worth, numbers)])
    return {
        graph.views[view]: (numbers[view], -falls[view], graph.rounds[view][climb.choices[view]][0])
        for view, out in enumerate(climb.arcs)
        if len(out) > 0
    }


def _is_entry(steps, view, thing):
    """Whether a thing is a tuple of an integer, an integer from 0 on, and an ask at the view."""
    return (
        is_tuple_of(thing, 3)
        and is_integer(thing[0])
        and is_natural(thing[1])
        and thing[2] in steps.asks_at(view)
    )


def _presses(ahead, cost, rise, behind):
    """Whether an answer of this weight and rise may lead from one entry to the other one."""
    most = cost + behind[0]
    return ahead[0] < most or (ahead[0] == most and (rise > 0 or behind[1] < ahead[1]))


def is_press(system, machine, mode, share, charge, thing):
    """Whether a thing is a press for the terms."""
    check_terms(system, machine, mode, share, charge)
    steps = Steps(system, machine, mode)
    worth = worths(share, charge)

    def holds(view):
        """Whether each answer to the ask at the view is as told."""
        return all([
            behind in thing and _presses(thing[view], weight(worth, price, rise, lie), rise, thing[behind])
            for behind, price, rise, lie in steps.results(view, thing[view][2])
        ])

    return is_proof(steps, thing, _is_entry, holds)
