"""Tables: they show that terms are kept (5.2, 5.4, 5.5)."""

from hintslie.checks import check_terms
from hintslie.errors import NotKept
from hintslie.kinds import is_natural
from hintslie.proofs import is_proof
from hintslie.solving import contest
from hintslie.steps import Steps
from hintslie.terms import lowest, units, weight, worths


def kept(system, machine, mode, share, charge):
    """Whether some player keeps the terms."""
    return contest(system, machine, mode, share, charge).numbers[0] is not None


def table(system, machine, mode, share, charge):
    """The table of all views that come, with the least numbers, or None if the terms are not kept."""
    done = contest(system, machine, mode, share, charge)
    if done.numbers[0] is None:
        return None
    # If the first view has a number, all views that come have one (5.4).
    return {view: number for view, number in zip(done.graph.views, done.numbers)}


def least_sum(system, machine, mode, share, charge):
    """The least fixed sum with which some player keeps the terms."""
    number = contest(system, machine, mode, share, charge).numbers[0]
    if number is None:
        raise NotKept()
    return lowest(number, units(share, charge))


def _is_entry(steps, view, thing):
    return is_natural(thing)


def _has_answer(steps, worth, thing, view, ask):
    """Whether some answer to the ask leads from the view to one of the table, within the number of the view."""
    return any([
        behind in thing and weight(worth, price, rise, lie) + thing[behind] <= thing[view]
        for behind, price, rise, lie in steps.results(view, ask)
    ])


def is_table(system, machine, mode, share, charge, thing):
    """Whether a thing is a table for the terms."""
    check_terms(system, machine, mode, share, charge)
    steps = Steps(system, machine, mode)
    worth = worths(share, charge)

    def holds(view):
        """Whether each ask at the view has an answer within its number."""
        return all([_has_answer(steps, worth, thing, view, ask) for ask in steps.asks_at(view)])

    return is_proof(steps, thing, _is_entry, holds)
