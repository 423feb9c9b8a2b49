"""The kinds of things that the package takes: judged with any object, whatever it is."""

from math import gcd

LETTERS = "abcdefghijklmnopqrstuvwxyz"
MODES = ("none", "true", "free")


def is_integer(thing):
    """Whether a thing is an integer; a flag is none."""
    return isinstance(thing, int) and not isinstance(thing, bool)


def is_natural(thing):
    """Whether a thing is an integer from 0 on."""
    return is_integer(thing) and thing >= 0


def is_below(thing, many):
    """Whether a thing is an integer from 0 on and less than many."""
    return is_natural(thing) and thing < many


def is_row(thing):
    """Whether a thing is a row: a list or a tuple."""
    return isinstance(thing, (list, tuple))


def is_tuple_of(thing, many):
    """Whether a thing is a tuple of this many items."""
    return isinstance(thing, tuple) and len(thing) == many


def is_name(thing):
    """Whether a thing is a string of 1 to 8 letters a to z."""
    return isinstance(thing, str) and 1 <= len(thing) <= 8 and all([letter in LETTERS for letter in thing])


def is_known(thing, names):
    """Whether a thing is one of the names, which may be kept in a dict."""
    # What is no string may have no hash, so a dict must not be asked for it.
    return isinstance(thing, str) and thing in names


def is_fraction(thing):
    """Whether a thing is a pair (top, bottom), top from 0 on, bottom from 1 on, without a common divisor."""
    if not is_tuple_of(thing, 2):
        return False
    top, bottom = thing
    return is_natural(top) and is_natural(bottom) and bottom > 0 and gcd(top, bottom) == 1
