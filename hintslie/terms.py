"""Terms, a share p / q and a charge c / e: their unit and the weights of answers (5.1)."""


def units(share, charge):
    """How many units are 1: q * e."""
    return share[1] * charge[1]


def weight(share, charge, price, rise, lie):
    """The weight of an answer, in units."""
    return units(share, charge) * price - share[0] * charge[1] * rise - charge[0] * share[1] * lie
