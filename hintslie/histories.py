"""The texts of matches, with all that was asked and answered (16)."""

from hintslie.checks import check_suited
from hintslie.errors import BadAsk, BadPost, BadText
from hintslie.kinds import MODES, is_known
from hintslie.matches import Match
from hintslie.words import check_closed, is_number, lines_of, name_of, sign_of

MODE_WORD = "mode"


def history_text(match):
    """The line of the mode, and one for each round and for the ask that is open."""
    lines = [MODE_WORD + " " + match.mode]
    lines.extend([" ".join([request, sign_of(hint), str(post)]) for request, hint, post in match.history()])
    if match.asked is not None:
        lines.append(match.asked[0] + " " + sign_of(match.asked[1]))
    return "".join([line + "\n" for line in lines])


def _goes_on(match, words, last):
    """Ask and answer what these words tell; whether they are a round, or in the last line an ask, in its turn."""
    is_round = len(words) == 3 and is_number(words[2])
    if not is_round and (len(words) != 2 or not last):
        return False
    try:
        match.ask((words[0], name_of(words[1])))
        if is_round:
            match.answer(int(words[2]))
    except (BadAsk, BadPost):
        return False
    return True


def read_history(system, machine, text):
    """The match that has this text."""
    check_suited(system, machine)
    lines = lines_of(text)
    # Where there is no line feed there is no line; what has the form then still stands behind the last one.
    words = lines[0].split(" ")
    if len(words) != 2 or words[0] != MODE_WORD or not is_known(words[1], MODES):
        raise BadText(1)
    match = Match(system, machine, words[1])
    last = len(lines) - 2
    for index, line in enumerate(lines[:-1]):
        if index > 0 and not _goes_on(match, line.split(" "), index == last):
            raise BadText(index + 1)
    check_closed(lines)
    return match
