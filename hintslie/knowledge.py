"""Offsets: how much more than the wisest price a service costs that ends at each post (3.1)."""

from hintslie.errors import BadOffsets
from hintslie.kinds import is_natural, is_tuple_of


def is_offsets(system, thing):
    """Whether a thing is offsets: from 0 on, with a 0, and none greater than another one and the way from there."""
    if not is_tuple_of(thing, system.posts) or not all([is_natural(offset) for offset in thing]):
        return False
    if min(thing) > 0:
        return False
    for offset, ways in zip(thing, system.ways):
        if any([other > offset + way for other, way in zip(thing, ways)]):
            return False
    return True


def first_offsets(system):
    """The ways from post 0."""
    return system.ways[0]


def risen(system, offsets, name):
    """As after_request, of what are offsets and the name of a request."""
    served = [
        (offset + price, ways)
        for offset, price, ways in zip(offsets, system.prices(name), system.ways)
        if price is not None
    ]
    raw = [min([cost + ways[post] for cost, ways in served]) for post in range(system.posts)]
    rise = min(raw)
    return tuple([cost - rise for cost in raw]), rise


def after_request(system, offsets, name):
    """The pair of the offsets behind a request and the rise of the wisest price by it."""
    if not is_offsets(system, offsets):
        raise BadOffsets()
    return risen(system, offsets, name)
