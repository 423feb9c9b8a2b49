"""What a row costs the wisest, who has seen it whole, and floors that show it (2.1, 2.2)."""

from hintslie.errors import BadRow
from hintslie.kinds import is_integer, is_known, is_row, is_tuple_of


def _check_row(system, row):
    if not is_row(row):
        raise BadRow(-1)
    for index, name in enumerate(row):
        if not is_known(name, system.names):
            raise BadRow(index)


def _choices(system, start, name, ahead):
    """The pairs (cost, post) of going from the start to a post, serving there, and what is ahead then."""
    ways = system.ways[start]
    prices = system.prices(name)
    return [
        (ways[post] + prices[post] + ahead[post], post)
        for post in range(system.posts)
        if prices[post] is not None
    ]


def _ceilings(system, name, ahead):
    """For each post the most that a floor may have ahead of the request, with this tuple behind it."""
    return tuple([min(_choices(system, start, name, ahead))[0] for start in range(system.posts)])


def floor(system, row):
    """A floor of the row in which the item of post 0 in the first tuple is the wisest price."""
    _check_row(system, row)
    tuples = [(0,) * system.posts]
    for name in reversed(row):
        tuples.append(_ceilings(system, name, tuples[-1]))
    return tuples[::-1]


def wisest(system, row):
    """The pair of the wisest price of the row and the posts of a service of this price."""
    costs = floor(system, row)
    posts = []
    post = 0
    for index, name in enumerate(row):
        post = min(_choices(system, post, name, costs[index + 1]))[1]
        posts.append(post)
    return costs[0][0], tuple(posts)


def _is_integers(thing, many):
    return is_tuple_of(thing, many) and all([is_integer(item) for item in thing])


def is_floor(system, row, price, thing):
    """Whether a thing is a floor of the row that shows that no service costs less than the price."""
    if not is_row(thing) or len(thing) != len(row) + 1:
        return False
    if not all([_is_integers(items, system.posts) for items in thing]):
        return False
    if max(thing[-1]) > 0:
        return False
    for index, name in enumerate(row):
        most = _ceilings(system, name, thing[index + 1])
        if any([item > ceiling for item, ceiling in zip(thing[index], most)]):
            return False
    return thing[0][0] >= price
