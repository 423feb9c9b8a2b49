"""What players of the styles do at each view (7.1)."""

from hintslie.arcs import arcs_of_posts
from hintslie.checks import check_mode
from hintslie.errors import BadStyle
from hintslie.kinds import is_known

STYLES = ("near", "calm", "trust", "offset")


def check_style(system, machine, mode, style):
    """As check_mode, then BadStyle for what is no style."""
    check_mode(system, machine, mode)
    if not is_known(style, STYLES):
        raise BadStyle()


def _costs(system, place, request):
    """The price of the way and of serving at each post, None where the request cannot be served."""
    ways = system.ways[place]
    return [None if price is None else ways[post] + price for post, price in enumerate(system.prices(request))]


def _least(costs):
    return min([cost for cost in costs if cost is not None])


def _first_least(costs):
    """The first post of the least cost."""
    return costs.index(_least(costs))


def _trusting(system, costs, hint):
    """The costs and with each the least that the request hinted costs from there."""
    if hint is None:
        return costs
    return [
        None if cost is None else cost + _least(_costs(system, post, hint))
        for post, cost in enumerate(costs)
    ]


def _offset_costs(steps, view, request):
    """The way to each post and its new offset, together, None where the request cannot be served."""
    offsets, _ = steps.risen_by(view[2], request)
    ways = steps.system.ways[view[1]]
    prices = steps.system.prices(request)
    return [None if price is None else ways[post] + offsets[post] for post, price in enumerate(prices)]


def chosen_post(steps, style, view, ask):
    """The post to which a player of the style goes, for arguments that are right ones."""
    request, hint = ask
    place = view[1]
    if style == "offset":
        return _first_least(_offset_costs(steps, view, request))
    if style == "calm" and steps.system.prices(request)[place] == 0:
        return place
    costs = _costs(steps.system, place, request)
    if style == "trust":
        costs = _trusting(steps.system, costs, hint)
    return _first_least(costs)


def style_arcs(graph, style):
    """The arcs (see circles) of all asks at the views of a graph to which a player of the style comes."""
    posts = [
        [chosen_post(graph.steps, style, view, one[0]) for one in rounds]
        for view, rounds in zip(graph.views, graph.rounds)
    ]
    return arcs_of_posts(graph, posts)


def gone_through(steps, style, view, asks):
    """The play in which a player of the style answers a row, as far as its items are asks in their turn.

    It is a tuple (view, posts, price, rise, lies): the last view, and what the rounds have together.
    """
    posts = []
    prices = rises = lies = 0
    for ask in asks:
        if ask not in steps.asks_at(view):
            break
        posts.append(chosen_post(steps, style, view, ask))
        view, price, rise, lie = steps.answered_at(view, ask, posts[-1])
        prices += price
        rises += rise
        lies += lie
    return view, posts, prices, rises, lies
