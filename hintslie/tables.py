"""Tables: they show that terms are kept (5.2, 5.4, 5.5)."""

from math import gcd

from hintslie.checks import check_terms
from hintslie.errors import NotKept
from hintslie.kinds import is_natural
from hintslie.solving import contest
from hintslie.steps import Steps
from hintslie.terms import units, weight
from hintslie.views import first_view


def kept(system, machine, mode, share, charge):
    """Whether some player keeps the terms."""
    return contest(system, machine, mode, share, charge).numbers[0] is not None


def table(system, machine, mode, share, charge):
    """The table of all views that come, with the least numbers, or None if the terms are not kept."""
    done = contest(system, machine, mode, share, charge)
    if done.numbers[0] is None:
        return None
    # If the first view has a number, all views that come have one (5.4).
    return {view: number for view, number in zip(done.graph.views, done.numbers)}


def least_sum(system, machine, mode, share, charge):
    """The least fixed sum with which some player keeps the terms."""
    number = contest(system, machine, mode, share, charge).numbers[0]
    if number is None:
        raise NotKept()
    whole = units(share, charge)
    divisor = gcd(number, whole)
    return number // divisor, whole // divisor


def _has_answer(steps, terms, thing, view, ask):
    """Whether some answer to the ask leads from the view to one of the table, within the number of the view."""
    share, charge = terms
    for post in steps.posts_for(ask[0]):
        behind, price, rise, lie = steps.answered_at(view, ask, post)
        if behind in thing and weight(share, charge, price, rise, lie) + thing[behind] <= thing[view]:
            return True
    return False


def is_table(system, machine, mode, share, charge, thing):
    """Whether a thing is a table for the terms."""
    check_terms(system, machine, mode, share, charge)
    steps = Steps(system, machine, mode)
    if not isinstance(thing, dict):
        return False
    if not all([steps.is_view(view) and is_natural(thing[view]) for view in thing]):
        return False
    if first_view(system) not in thing:
        return False
    for view in thing:
        for ask in steps.asks_at(view):
            if not _has_answer(steps, (share, charge), thing, view, ask):
                return False
    return True
