"""Views: what a player sees, what can be asked and answered there, and how many come (4)."""

from hintslie.checks import check_mode
from hintslie.errors import BadAsk, BadPost, BadView
from hintslie.graphs import Graph
from hintslie.kinds import is_integer
from hintslie.knowledge import first_offsets
from hintslie.steps import Steps


def is_view(system, machine, mode, thing):
    """Whether a thing is a view."""
    check_mode(system, machine, mode)
    return Steps(system, machine, mode).is_view(thing)


def first_view(system):
    """The view ahead of the first round."""
    return 0, 0, first_offsets(system), None


def _steps_at(system, machine, mode, view):
    """The steps of these, if the view is one."""
    check_mode(system, machine, mode)
    steps = Steps(system, machine, mode)
    if not steps.is_view(view):
        raise BadView()
    return steps


def asks(system, machine, mode, view):
    """The list of all asks at the view, the requests ascending, for each the hints ascending."""
    return _steps_at(system, machine, mode, view).asks_at(view)


def answered(system, machine, mode, view, ask, post):
    """The tuple (view, price, rise, lie) that comes of serving the request of the ask at the post."""
    steps = _steps_at(system, machine, mode, view)
    if ask not in steps.asks_at(view):
        raise BadAsk()
    if not is_integer(post) or post not in steps.posts_for(ask[0]):
        raise BadPost(post)
    return steps.answered_at(view, ask, post)


def graph_of(system, machine, mode):
    """The graph of all views that come, of arguments that are right ones, or TooMany(1000)."""
    return Graph(Steps(system, machine, mode), first_view(system))


def views(system, machine, mode):
    """The number of all views that come."""
    check_mode(system, machine, mode)
    return len(graph_of(system, machine, mode).views)
