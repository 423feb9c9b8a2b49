"""Errors that many functions raise ahead of their work."""

from hintslie.errors import BadFraction, BadMode, Unsuited
from hintslie.kinds import MODES, is_fraction, is_known


def check_mode(system, machine, mode):
    """Raise Unsuited unless the machine suits the system, then BadMode for what is no mode."""
    for name in machine.names:
        if name not in system.names:
            raise Unsuited(name)
    if not is_known(mode, MODES):
        raise BadMode()


def check_terms(system, machine, mode, share, charge):
    """As check_mode, then BadFraction unless share and charge are fractions."""
    check_mode(system, machine, mode)
    if not is_fraction(share) or not is_fraction(charge):
        raise BadFraction()
