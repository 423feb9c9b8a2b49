"""The names of a machine without which a lesser share is kept (10.4)."""

from hintslie.changes import without
from hintslie.errors import BadMachine
from hintslie.shares import least_share


def _left_out(machine, name):
    """The machine without the name, or None if a state would have no name any more."""
    try:
        return without(machine, name)
    except BadMachine:
        return None


def blamed(system, machine, mode, charge):
    """The ascending list of the names that can be left out of the machine and make the least share less so."""
    top, bottom = least_share(system, machine, mode, charge)
    found = []
    for name in machine.names:
        lesser = _left_out(machine, name)
        if lesser is not None:
            less = least_share(system, lesser, mode, charge)
            if less[0] * bottom < top * less[1]:
                found.append(name)
    return found
