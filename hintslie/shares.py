"""The least share with a charge, and the least charge with a share (6.1, 6.4)."""

from hintslie.checks import check_terms
from hintslie.climbing import Climb
from hintslie.terms import BEYOND, NOTHING, charge_line, share_line
from hintslie.views import graph_of


def least_share(system, machine, mode, charge):
    """The least share that is kept with the charge."""
    check_terms(system, machine, mode, charge)
    return Climb(graph_of(system, machine, mode), share_line(charge), NOTHING).place


def least_charge(system, machine, share):
    """The least charge that is kept with the share in the mode free, or None if none is."""
    check_terms(system, machine, "free", share)
    place = Climb(graph_of(system, machine, "free"), charge_line(share), NOTHING).place
    return None if place == BEYOND else place
