"""Plays of the mode free in which only so many lies are told (13)."""

from hintslie.checks import check_terms
from hintslie.errors import BadNumber, NotKept
from hintslie.kinds import is_below, is_natural, is_tuple_of
from hintslie.solving import Contest, answer_costs, promises
from hintslie.steps import Steps, lie_told
from hintslie.terms import NOTHING, lowest, weight, worths
from hintslie.views import first_view, graph_of

MODE = "free"
MOST_LIES = 9


def _check(system, machine, share, most):
    """The errors of these arguments, in their order."""
    check_terms(system, machine, MODE, share)
    if not is_below(most, MOST_LIES + 1):
        raise BadNumber()


def _behind_lies(graph, worth, numbers):
    """What the asker reaches at each view by the best lie, or by asking no more, if these are the numbers behind."""
    promised = promises(answer_costs(graph, worth), numbers)
    return [max([0] + [promised[answered] for _, lie, answered in rounds if lie > 0]) for rounds in graph.rounds]


def _layers(graph, share, most):
    """The least numbers of all views with 0, 1, .. most lies left; None if the share is not kept.

    All views of the mode free come in the mode true, too: one need only hint what was asked. So if the share is
    kept there, all views have a number, with any lies left.
    """
    worth = worths(share, NOTHING)
    truthful = [[one for one in rounds if one[1] == 0] for rounds in graph.rounds]
    stops = [0] * len(graph.views)
    layers = []
    for _ in range(most + 1):
        numbers = Contest(graph, worth, truthful, stops).numbers
        if numbers[0] is None:
            return None
        layers.append(numbers)
        stops = _behind_lies(graph, worth, numbers)
    return layers


def counted_sums(system, machine, share, most):
    """The least fixed sums with which some player keeps the share, for 0, 1, .. most lies in all."""
    _check(system, machine, share, most)
    layers = _layers(graph_of(system, machine, MODE), share, most)
    if layers is None:
        raise NotKept()
    return [lowest(numbers[0], share[1]) for numbers in layers]


def _pairs(graph, most):
    """All pairs (number of a view, left) that come from the first view with most."""
    pairs = [(0, most)]
    met = {(0, most): True}
    done = 0
    while done < len(pairs):
        view, left = pairs[done]
        done += 1
        for _, lie, answered in graph.rounds[view]:
            if lie <= left:
                for _, _, behind in graph.answers[answered][1]:
                    if (behind, left - lie) not in met:
                        met[(behind, left - lie)] = True
                        pairs.append((behind, left - lie))
    return pairs


def counted_table(system, machine, share, most):
    """The counted table of all pairs that come, with the least numbers, or None if the share is not kept."""
    _check(system, machine, share, most)
    graph = graph_of(system, machine, MODE)
    layers = _layers(graph, share, most)
    if layers is None:
        return None
    return {(graph.views[view], left): layers[left][view] for view, left in _pairs(graph, most)}


def _is_entry(steps, key, thing, most):
    """Whether a key is a pair of a view and a number of lies up to most, and a thing an integer from 0 on."""
    return is_tuple_of(key, 2) and steps.is_view(key[0]) and is_below(key[1], most + 1) and is_natural(thing)


def _has_answer(worth, thing, key, results):
    """Whether something that comes of an ask leads from the pair to one of the table, within its number."""
    left = key[1]
    return any([
        (behind, left - lie) in thing and weight(worth, price, rise, 0) + thing[(behind, left - lie)] <= thing[key]
        for behind, price, rise, lie in results
    ])


def is_counted_table(system, machine, share, most, thing):
    """Whether a thing is a counted table of the share and the number of lies."""
    _check(system, machine, share, most)
    steps = Steps(system, machine, MODE)
    worth = worths(share, NOTHING)
    if not isinstance(thing, dict) or not all([_is_entry(steps, key, thing[key], most) for key in thing]):
        return False
    return (first_view(system), most) in thing and all([
        _has_answer(worth, thing, key, steps.results(key[0], ask))
        for key in thing
        for ask in steps.asks_at(key[0])
        if lie_told(key[0], ask) <= key[1]
    ])
