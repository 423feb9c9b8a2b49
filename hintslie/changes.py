"""Systems and machines that are made of others (10)."""

from hintslie.errors import BadNumber, BadPosts, NoRequest, TooLarge
from hintslie.kinds import is_below, is_known, is_name, is_tuple_of
from hintslie.machines import Machine
from hintslie.systems import MOST_POSTS, MOST_PRICE, MOST_REQUESTS, System

MOST_FACTOR = 9


def _check_prices(moves, requests):
    """Raise TooLarge if a price is above 9."""
    prices = [price for row in moves for price in row]
    prices.extend([price for row in list(requests.values()) for price in row if price is not None])
    if max(prices) > MOST_PRICE:
        raise TooLarge()


def beside(one, other):
    """The system of both at once, with the names of one behind an a, and those of the other one behind a b."""
    posts = [(a, b) for a in range(one.posts) for b in range(other.posts)]
    requests = {}
    for name in one.names:
        requests["a" + name] = tuple([one.prices(name)[a] for a, _ in posts])
    for name in other.names:
        requests["b" + name] = tuple([other.prices(name)[b] for _, b in posts])
    if len(posts) > MOST_POSTS or len(requests) > MOST_REQUESTS or not all([is_name(word) for word in requests]):
        raise TooLarge()
    moves = tuple([tuple([one.moves[a][c] + other.moves[b][d] for c, d in posts]) for a, b in posts])
    _check_prices(moves, requests)
    return System(moves, requests)


def _groups(system):
    """The lists of posts between which the ways both ways are 0, in the order of the first of each."""
    groups = []
    for post in range(system.posts):
        alike = [one for one in groups if system.ways[one[0]][post] + system.ways[post][one[0]] == 0]
        if len(alike) > 0:
            alike[0].append(post)
        else:
            groups.append([post])
    return groups


def _least_price(prices, group):
    """The least price at one of the posts, None if it can be served at none."""
    return min([prices[post] for post in group if prices[post] is not None], default=None)


def folded(system):
    """The system in which posts between which one can go for nothing are one."""
    groups = _groups(system)
    moves = tuple([tuple([system.ways[old[0]][new[0]] for new in groups]) for old in groups])
    requests = {
        name: tuple([_least_price(system.prices(name), group) for group in groups])
        for name in system.names
    }
    return System(moves, requests)


def times(system, many):
    """The system with all prices multiplied."""
    if not is_below(many, MOST_FACTOR + 1) or many == 0:
        raise BadNumber()
    moves = tuple([tuple([many * price for price in row]) for row in system.moves])
    requests = {
        name: tuple([None if price is None else many * price for price in system.prices(name)])
        for name in system.names
    }
    _check_prices(moves, requests)
    return System(moves, requests)


def turned(system, posts):
    """The system in which post k is the post posts[k] of this one."""
    if not is_tuple_of(posts, system.posts) or not all([is_below(post, system.posts) for post in posts]):
        raise BadPosts()
    if posts[0] != 0 or sorted(posts) != list(range(system.posts)):
        raise BadPosts()
    moves = tuple([tuple([system.moves[old][new] for new in posts]) for old in posts])
    return System(moves, {name: tuple([system.prices(name)[post] for post in posts]) for name in system.names})


def without(machine, name):
    """The machine in which the name is no key any more."""
    if not is_known(name, machine.names):
        raise NoRequest(name)
    # Machine itself raises BadMachine for a state that would have no name.
    return Machine(tuple([{other: turn[other] for other in turn if other != name} for turn in machine.turns]))
