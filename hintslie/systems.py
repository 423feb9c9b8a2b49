"""Systems: posts, the prices of the steps between them, and requests with their prices (1.1, 1.2)."""

from hintslie.errors import BadSystem, NoPost, NoRequest
from hintslie.kinds import is_below, is_known, is_name, is_tuple_of

MOST_POSTS = 6
MOST_REQUESTS = 5
MOST_PRICE = 9


def _is_price(thing):
    return is_below(thing, MOST_PRICE + 1)


def is_moves(thing):
    """Whether a thing is a square of prices with 0 from each post to itself."""
    if not isinstance(thing, tuple) or not 1 <= len(thing) <= MOST_POSTS:
        return False
    for post, prices in enumerate(thing):
        if not is_tuple_of(prices, len(thing)) or not all([_is_price(price) for price in prices]):
            return False
        if prices[post] != 0:
            return False
    return True


def _is_prices(thing, posts):
    """Whether a thing has a price or None for each post, and at least one price."""
    if not is_tuple_of(thing, posts):
        return False
    told = [price for price in thing if price is not None]
    return len(told) > 0 and all([_is_price(price) for price in told])


def _is_requests(thing, posts):
    if not isinstance(thing, dict) or not 1 <= len(thing) <= MOST_REQUESTS:
        return False
    return all([is_name(name) and _is_prices(thing[name], posts) for name in thing])


def least_ways(moves):
    """The least sums of steps from each post to each other one, as tuples like moves."""
    ways = [list(prices) for prices in moves]
    posts = range(len(moves))
    for middle in posts:
        for start in posts:
            for end in posts:
                ways[start][end] = min(ways[start][end], ways[start][middle] + ways[middle][end])
    return tuple([tuple(row) for row in ways])


class System:
    """Posts with the prices of steps between them, and requests with their prices at the posts.

    Beside what the interface lists, `ways[a][b]` is the way from post a to post b.
    """

    def __init__(self, moves, requests):
        if not is_moves(moves):
            raise BadSystem("moves")
        if not _is_requests(requests, len(moves)):
            raise BadSystem("requests")
        self.moves = moves
        self.posts = len(moves)
        self.names = tuple(sorted(requests))
        self.ways = least_ways(moves)
        self._requests = {name: requests[name] for name in self.names}

    @property
    def requests(self):
        """A new dict of the names and the prices of the requests."""
        return {name: self._requests[name] for name in self.names}

    def __eq__(self, other):
        return isinstance(other, System) and self.moves == other.moves and self._requests == other._requests

    def _check_post(self, post):
        if not is_below(post, self.posts):
            raise NoPost(post)

    def way(self, a, b):
        """The least sum of the prices of steps that lead from post a to post b."""
        self._check_post(a)
        self._check_post(b)
        return self.ways[a][b]

    def prices(self, name):
        """The prices of the request at all posts, None where it cannot be served."""
        if not is_known(name, self._requests):
            raise NoRequest(name)
        return self._requests[name]

    def served(self, name, post):
        """The price of the request at the post, or None if it cannot be served there."""
        prices = self.prices(name)
        self._check_post(post)
        return prices[post]
