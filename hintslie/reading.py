"""Systems, machines and views read from their texts (11.2)."""

from hintslie.checks import check_mode
from hintslie.errors import BadText, BadView
from hintslie.kinds import is_name
from hintslie.machines import Machine
from hintslie.steps import Steps
from hintslie.systems import System
from hintslie.words import NO_NAME, check_closed, is_number, is_sign, lines_of, name_of


def _all_numbers(words):
    """Whether there are words, and all are numbers."""
    return len(words) > 0 and all([is_number(word) for word in words])


def _is_request(words, last):
    """Whether these are the words of a request whose name is behind the last one."""
    if words[0] != "request" or len(words) < 3 or not is_name(words[1]) or words[1] <= last:
        return False
    return all([word == NO_NAME or is_number(word) for word in words[2:]])


def _price(word):
    return None if word == NO_NAME else int(word)


def read_system(text):
    """The system that has this text."""
    lines = lines_of(text)
    moves = []
    requests = {}
    # The last name; no post stands behind one.
    last = ""
    for index, line in enumerate(lines[:-1]):
        words = line.split(" ")
        if words[0] == "post" and last == "" and _all_numbers(words[1:]):
            moves.append(tuple([int(word) for word in words[1:]]))
        elif _is_request(words, last):
            last = words[1]
            requests[last] = tuple([_price(word) for word in words[2:]])
        else:
            raise BadText(index + 1)
    check_closed(lines)
    return System(tuple(moves), requests)


def _turn(words):
    """The turn that these words tell, or None if they tell none."""
    if words[0] != "state" or len(words) < 2:
        return None
    turn = {}
    last = ""
    for word in words[1:]:
        parts = word.split(":")
        if len(parts) != 2 or not is_name(parts[0]) or not is_number(parts[1]) or parts[0] <= last:
            return None
        last = parts[0]
        turn[last] = int(parts[1])
    return turn


def read_machine(text):
    """The machine that has this text."""
    lines = lines_of(text)
    turns = []
    for index, line in enumerate(lines[:-1]):
        turn = _turn(line.split(" "))
        if turn is None:
            raise BadText(index + 1)
        turns.append(turn)
    check_closed(lines)
    return Machine(tuple(turns))


def read_view(system, machine, mode, text):
    """The view that has this text."""
    check_mode(system, machine, mode)
    if not isinstance(text, str):
        raise BadText(0)
    words = text.split(" ")
    # A line feed is no part of a number or a name, so no text with one has the form.
    if len(words) != 4 or not _all_numbers(words[:2] + words[2].split(",")) or not is_sign(words[3]):
        raise BadText(1)
    offsets = tuple([int(word) for word in words[2].split(",")])
    view = (int(words[0]), int(words[1]), offsets, name_of(words[3]))
    if not Steps(system, machine, mode).is_view(view):
        raise BadView()
    return view
