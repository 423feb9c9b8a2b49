"""Machines: they tell which rows of requests can come (1.3)."""

from hintslie.errors import BadMachine
from hintslie.kinds import is_below, is_known, is_name, is_row

MOST_STATES = 4


def _is_turn(thing, states):
    """Whether a thing leads from at least one name to numbers of states."""
    if not isinstance(thing, dict) or len(thing) == 0:
        return False
    return all([is_name(name) and is_below(thing[name], states) for name in thing])


def _is_turns(thing):
    if not isinstance(thing, tuple) or not 1 <= len(thing) <= MOST_STATES:
        return False
    return all([_is_turn(turn, len(thing)) for turn in thing])


class Machine:
    """States, and for each the requests that it lets and the states to which they lead.

    Beside what the interface lists, `names` is the ascending tuple of all its names.
    """

    def __init__(self, turns):
        if not _is_turns(turns):
            raise BadMachine()
        self._turns = tuple([dict(turn) for turn in turns])
        self.states = len(turns)
        self.names = tuple(sorted({name for turn in turns for name in turn}))

    @property
    def turns(self):
        """A tuple of new dicts, one for each state."""
        return tuple([dict(turn) for turn in self._turns])

    def __eq__(self, other):
        return isinstance(other, Machine) and self._turns == other._turns

    def lets(self, row):
        """Whether a thing is a row of names that can be gone from state 0 on."""
        if not is_row(row):
            return False
        state = 0
        for name in row:
            if not is_known(name, self._turns[state]):
                return False
            state = self._turns[state][name]
        return True


def met_turns(turns, start):
    """The turns of a machine of all states that can be come to from the start, numbered as they are met.

    One goes breadth first, names ascending. `turns` is a dict from states, whatever they are, to dicts from names
    to states.
    """
    met = [start]
    numbers = {start: 0}
    done = 0
    while done < len(met):
        turn = turns[met[done]]
        done += 1
        for name in sorted(turn):
            if turn[name] not in numbers:
                numbers[turn[name]] = len(met)
                met.append(turn[name])
    return tuple([{name: numbers[turns[state][name]] for name in sorted(turns[state])} for state in met])


def free_machine(system):
    """The machine of one state in which each request of the system leads to it."""
    return Machine(({name: 0 for name in system.names},))
