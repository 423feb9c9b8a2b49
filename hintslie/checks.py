"""Errors that many functions raise ahead of their work."""

from hintslie.errors import BadFraction, BadMode, Unsuited
from hintslie.kinds import MODES, is_fraction, is_known


def check_suited(system, machine):
    """Raise Unsuited unless the machine suits the system."""
    for name in machine.names:
        if name not in system.names:
            raise Unsuited(name)


def check_mode(system, machine, mode):
    """As check_suited, then BadMode for what is no mode."""
    check_suited(system, machine)
    if not is_known(mode, MODES):
        raise BadMode()


def check_fractions(*things):
    """Raise BadFraction unless all are fractions."""
    if not all([is_fraction(thing) for thing in things]):
        raise BadFraction()


def check_terms(system, machine, mode, *fractions):
    """As check_mode, then BadFraction unless what is told of the terms are fractions: a share, a charge, or both."""
    check_mode(system, machine, mode)
    check_fractions(*fractions)
