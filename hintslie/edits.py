"""Systems and machines that are changed by hand (17)."""

from hintslie.errors import BadMachine, BadNumber, BadSystem, NoPost, TooLarge
from hintslie.kinds import is_below, is_name
from hintslie.machines import MOST_STATES, Machine, met_turns
from hintslie.systems import MOST_PRICE, System


def with_request(system, name, prices):
    """The system with this request, new or instead of the one there is."""
    # What is no name may have no hash, so it cannot even be tried as a key.
    if not is_name(name):
        raise BadSystem("requests")
    requests = system.requests
    requests[name] = prices
    return System(system.moves, requests)


def without_request(system, name):
    """The system without this request."""
    # It raises NoRequest for what is no name of a request, and System BadSystem if none is left.
    system.prices(name)
    requests = system.requests
    del requests[name]
    return System(system.moves, requests)


def with_step(system, a, b, price):
    """The system in which the step from post a to post b has this price."""
    for post in (a, b):
        if not is_below(post, system.posts):
            raise NoPost(post)
    if not is_below(price, MOST_PRICE + 1) or a == b:
        raise BadNumber()
    moves = [list(row) for row in system.moves]
    moves[a][b] = price
    return System(tuple([tuple(row) for row in moves]), system.requests)


def _shared_turn(one, other):
    """The turn of a pair of states: the names that both let, and the pairs to which they lead."""
    return {name: (one[name], other[name]) for name in one if name in other}


def _endless(turns):
    """The turns from pairs to pairs without those pairs from which one cannot go on for ever."""
    stuck = [pair for pair in turns if len(turns[pair]) == 0]
    while len(stuck) > 0:
        turns = {
            pair: {name: turns[pair][name] for name in turns[pair] if turns[pair][name] not in stuck}
            for pair in turns
            if pair not in stuck
        }
        stuck = [pair for pair in turns if len(turns[pair]) == 0]
    return turns


def both(one, other):
    """The machine that lets just the rows that both let, as far as both go on for ever."""
    turns = _endless({
        (a, b): _shared_turn(turn, opposite)
        for a, turn in enumerate(one.turns)
        for b, opposite in enumerate(other.turns)
    })
    if (0, 0) not in turns:
        raise BadMachine()
    met = met_turns(turns, (0, 0))
    if len(met) > MOST_STATES:
        raise TooLarge()
    return Machine(met)
