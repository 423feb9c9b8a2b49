"""Rules: what a player answers to each ask at each view (7.4)."""

from hintslie.arcs import arcs_of_posts, posts_within
from hintslie.checks import check_terms
from hintslie.circles import least_sums, weighed
from hintslie.errors import NotKept
from hintslie.kinds import is_below, is_tuple_of
from hintslie.solving import contest
from hintslie.terms import share_line, turned_about, worths, worths_at
from hintslie.views import graph_of


def rule(system, machine, mode, share, charge):
    """The rule that answers within the numbers of the table, at the first post that does."""
    done = contest(system, machine, mode, share, charge)
    if done.numbers[0] is None:
        raise NotKept()
    graph = done.graph
    posts = posts_within(graph, worths(share, charge), done.numbers)
    return {
        (view, asked[0]): post
        for view, rounds, chosen in zip(graph.views, graph.rounds, posts)
        for asked, post in zip(rounds, chosen)
    }


def _is_entry(steps, key, thing):
    """Whether a key is a pair of a view and an ask there, and a thing a post."""
    if not is_tuple_of(key, 2) or not steps.is_view(key[0]):
        return False
    return key[1] in steps.asks_at(key[0]) and is_below(thing, steps.system.posts)


def _answers_all(graph, arcs):
    """Whether there is an arc for each ask at each view to which arcs lead from the first one."""
    come = [0] + [behind for out in arcs for _, _, _, behind in out]
    return all([len(arcs[view]) == len(graph.rounds[view]) for view in come])


def is_rule(system, machine, mode, share, charge, thing):
    """Whether a thing is a rule that keeps the terms."""
    check_terms(system, machine, mode, share, charge)
    graph = graph_of(system, machine, mode)
    if not isinstance(thing, dict) or not all([_is_entry(graph.steps, key, thing[key]) for key in thing]):
        return False
    posts = [
        [thing.get((view, asked[0])) for asked in rounds]
        for view, rounds in zip(graph.views, graph.rounds)
    ]
    arcs = arcs_of_posts(graph, posts)
    _, circle = least_sums(weighed(arcs, worths_at(turned_about(share_line(charge)), share)))
    return circle is None and _answers_all(graph, arcs)
