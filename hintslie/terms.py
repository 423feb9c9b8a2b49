"""Terms, a share p / q and a charge c / e: their unit, weights (5.1), and lines of terms.

The WORTHS of terms are what a price, a rise and a lie count in weights: three integers. A LINE is a pair (fixed,
rate) of such: at the PLACE top / bottom it has the worths fixed * bottom + rate * top. A place is a pair (top,
bottom) without a common divisor, and (1, 0) stands for beyond all places.
"""

from math import gcd

BEYOND = (1, 0)
NOTHING = (0, 1)


def units(share, charge):
    """How many units are 1: q * e."""
    return share[1] * charge[1]


def worths(share, charge):
    """The worths of these terms, in units."""
    return units(share, charge), -share[0] * charge[1], -charge[0] * share[1]


def weight(worth, price, rise, lie):
    """The weight of an answer, or of many together, by the worths of the terms."""
    return worth[0] * price + worth[1] * rise + worth[2] * lie


def lowest(top, bottom):
    """The pair (top, bottom) without their common divisor."""
    divisor = gcd(top, bottom)
    return top // divisor, bottom // divisor


def share_line(charge):
    """The line of all shares with this charge."""
    top, bottom = charge
    return (bottom, 0, -top), (0, -bottom, 0)


def charge_line(share):
    """The line of all charges with this share."""
    top, bottom = share
    return (bottom, -top, 0), (0, 0, -bottom)


def turned_about(line):
    """The line on which each weight has the other sign: what the player gains is what the asker loses."""
    return tuple([tuple([-worth for worth in part]) for part in line])


def worths_at(line, place):
    """The worths of the terms at a place on a line."""
    top, bottom = place
    return tuple([fixed * bottom + rate * top for fixed, rate in zip(line[0], line[1])])


def place_of(line, price, rise, lie):
    """The place on the line at which the weight of these is 0; beyond all if it is the same at each."""
    fixed = weight(line[0], price, rise, lie)
    rate = weight(line[1], price, rise, lie)
    return lowest(-fixed, rate) if rate >= 0 else lowest(fixed, -rate)
