"""The arcs (see circles) that are left at the views of a graph when one side has chosen what to do at each."""

from hintslie.terms import weight


def _reached(arcs):
    """The same arcs, but none at views to which they do not lead from the first one."""
    met = {0: True}
    todo = [0]
    while len(todo) > 0:
        for _, _, _, behind in arcs[todo.pop()]:
            if behind not in met:
                met[behind] = True
                todo.append(behind)
    return [out if view in met else [] for view, out in enumerate(arcs)]


def _answer_arcs(graph, asked):
    """The arcs of all answers to an ask, told as in the rounds of a graph."""
    _, lie, answered = asked
    rise, served = graph.answers[answered]
    return [(price, rise, lie, behind) for _, price, behind in served]


def arcs_of_asks(graph, choices):
    """The arcs of all answers, if `choices[view]` is the number of the ask there, or None if there is none."""
    return _reached([
        [] if choice is None else _answer_arcs(graph, rounds[choice])
        for rounds, choice in zip(graph.rounds, choices)
    ])


def _ask_arcs(graph, rounds, posts):
    """The arcs of all asks at a view that are answered with these posts, one for each."""
    return [
        (price, graph.answers[answered][0], lie, behind)
        for (_, lie, answered), chosen in zip(rounds, posts)
        for post, price, behind in graph.answers[answered][1]
        if post == chosen
    ]


def arcs_of_posts(graph, posts):
    """The arcs of all asks, if `posts[view]` are the posts of the answers to them, in order."""
    return _reached([_ask_arcs(graph, rounds, chosen) for rounds, chosen in zip(graph.rounds, posts)])


def _first_within(graph, asked, worth, number, numbers):
    """The post of the first answer to an ask whose weight and number behind are within the number."""
    _, lie, answered = asked
    rise, served = graph.answers[answered]
    for post, price, behind in served:
        if weight(worth, price, rise, lie) + numbers[behind] <= number:
            return post
    return None


def posts_within(graph, worth, numbers):
    """For each view the posts of the first answers to the asks there that stay within the numbers of a table."""
    return [
        [_first_within(graph, asked, worth, number, numbers) for asked in rounds]
        for number, rounds in zip(numbers, graph.rounds)
    ]


def way_to(arcs, view):
    """A shortest walk along the arcs from the first view to this one, as pairs (view, index of the arc)."""
    came = {0: None}
    todo = [0]
    done = 0
    while view not in came:
        for index, (_, _, _, behind) in enumerate(arcs[todo[done]]):
            if behind not in came:
                came[behind] = (todo[done], index)
                todo.append(behind)
        done += 1
    walk = []
    while came[view] is not None:
        walk.append(came[view])
        view = came[view][0]
    return walk[::-1]
