"""Liar's tables: they show that terms are not kept (5.3, 5.4)."""

from hintslie.checks import check_terms
from hintslie.kinds import is_integer, is_tuple_of
from hintslie.solving import contest
from hintslie.steps import Steps
from hintslie.terms import weight
from hintslie.views import first_view


def _chosen(done):
    """The numbers of the views to which the asks chosen lead from the first one, each with its answers."""
    answers = {}
    todo = [0]
    while len(todo) > 0:
        view = todo.pop()
        if view not in answers:
            answers[view] = done.asked[view][done.choices[view]]
            todo.extend([behind for _, behind in answers[view]])
    return answers


def _potentials(answers):
    """For each view the least sum of M times the weight, less 1, over the plays from there, of any length."""
    most = len(answers) + 1
    numbers = {view: 0 for view in answers}
    changed = True
    # Each circle has a weight from 1 on and fewer than M rounds, so its sum is above 0 and this ends.
    while changed:
        changed = False
        for view in answers:
            least = min([most * cost - 1 + numbers[behind] for cost, behind in answers[view]])
            if least < numbers[view]:
                numbers[view] = least
                changed = True
    return numbers


def liar(system, machine, mode, share, charge):
    """A liar's table, or None if the terms are kept."""
    done = contest(system, machine, mode, share, charge)
    if done.numbers[0] is not None:
        return None
    answers = _chosen(done)
    numbers = _potentials(answers)
    found = {}
    for view in answers:
        ask = done.graph.rounds[view][done.choices[view]][0]
        found[done.graph.views[view]] = (numbers[view], ask)
    return found


def _is_entry(steps, view, thing):
    """Whether a view has a pair of an integer and an ask there."""
    if not steps.is_view(view) or not is_tuple_of(thing, 2):
        return False
    number, ask = thing
    return is_integer(number) and ask in steps.asks_at(view)


def is_liar(system, machine, mode, share, charge, thing):
    """Whether a thing is a liar's table for the terms."""
    check_terms(system, machine, mode, share, charge)
    steps = Steps(system, machine, mode)
    if not isinstance(thing, dict):
        return False
    if not all([_is_entry(steps, view, thing[view]) for view in thing]):
        return False
    if first_view(system) not in thing:
        return False
    most = len(thing) + 1
    for view in thing:
        number, ask = thing[view]
        for post in steps.posts_for(ask[0]):
            behind, price, rise, lie = steps.answered_at(view, ask, post)
            if behind not in thing:
                return False
            if number > most * weight(share, charge, price, rise, lie) - 1 + thing[behind][0]:
                return False
    return True
