"""The texts of systems, machines and views (11.1)."""

from hintslie.words import sign_of


def _line(words):
    return " ".join(words) + "\n"


def _price(price):
    return "-" if price is None else str(price)


def system_text(system):
    """A line for each post with its moves, and one for each request with its items."""
    lines = [_line(["post"] + [str(price) for price in prices]) for prices in system.moves]
    for name in system.names:
        lines.append(_line(["request", name] + [_price(price) for price in system.prices(name)]))
    return "".join(lines)


def machine_text(machine):
    """A line for each state with its names and the states to which they lead."""
    return "".join([
        _line(["state"] + [name + ":" + str(turn[name]) for name in sorted(turn)])
        for turn in machine.turns
    ])


def view_text(view):
    """The state, the post, the offsets and the hint of a view, without a line feed."""
    state, post, offsets, hint = view
    return " ".join([str(state), str(post), ",".join([str(offset) for offset in offsets]), sign_of(hint)])
