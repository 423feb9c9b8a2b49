"""Systems that are built from a few numbers (9)."""

from itertools import combinations, permutations

from hintslie.errors import BadNumber, BadSystem, TooLarge
from hintslie.kinds import LETTERS, is_below
from hintslie.systems import MOST_POSTS, MOST_PRICE, MOST_REQUESTS, System, is_moves, least_ways


def _check_number(thing, least, most):
    """Raise BadNumber unless a thing is an integer from least to most."""
    if not is_below(thing, most + 1) or thing < least:
        raise BadNumber()


def renting(price):
    """To rent day by day, or to buy at this price."""
    _check_number(price, 1, MOST_PRICE)
    return System(((0, price), (0, 0)), {"day": (1, 0), "over": (0, None)})


def _system(posts, many, step, served):
    """The system of these posts with so many letters as requests.

    `step(old, new)` is the price of a step, and `served(number, post)` that of the letter of this number there.
    """
    moves = tuple([tuple([step(old, new) for new in posts]) for old in posts])
    requests = {LETTERS[number]: tuple([served(number, post) for post in posts]) for number in range(many)}
    return System(moves, requests)


def _free_where_held(number, post):
    return 0 if number in post else None


def _brought(old, new):
    """How many things the new post has and the old one has not."""
    return len([thing for thing in new if thing not in old])


def rooms(held, things):
    """So many of the things can be held at once, and a letter asks for one of them."""
    _check_number(things, 1, MOST_REQUESTS)
    _check_number(held, 1, things)
    posts = list(combinations(range(things), held))
    if len(posts) > MOST_POSTS:
        raise BadNumber()
    return _system(posts, things, _brought, _free_where_held)


def _exchanged(old, new):
    """How many pairs of things stand the other way about in the new order."""
    places = [new.index(thing) for thing in old]
    return len([one for at, one in enumerate(places) for other in places[at + 1:] if one > other])


def _place(number, order):
    return order.index(number)


def rows(things):
    """The things stand in a row, and a letter costs the place of its thing."""
    _check_number(things, 1, 3)
    return _system(list(permutations(range(things))), things, _exchanged, _place)


def walkers(ways, many):
    """One or two walkers between places, and a letter asks for one at its place."""
    if not is_moves(ways) or not 2 <= len(ways) <= MOST_REQUESTS:
        raise BadSystem("moves")
    if any([ways[a][b] != ways[b][a] for a in range(len(ways)) for b in range(len(ways))]):
        raise BadSystem("moves")
    _check_number(many, 1, 2)
    posts = list(combinations(range(len(ways)), many))
    if len(posts) > MOST_POSTS:
        raise BadNumber()
    least = least_ways(ways)

    def step(old, new):
        """The least sum of ways by which walkers go from the old places to the new ones, in one order or the other."""
        return min([sum([least[a][b] for a, b in zip(old, order)]) for order in (new, new[::-1])])

    if any([step(old, new) > MOST_PRICE for old in posts for new in posts]):
        raise TooLarge()
    return _system(posts, len(ways), step, _free_where_held)
