"""The lines that a desk understands (12.1)."""

from hintslie.errors import NoLine
from hintslie.kinds import is_name
from hintslie.words import is_number, is_sign, name_of

# The kinds of the words behind the first one; those with a TEXT are read apart.
FORMS = {
    "drop": ("name",),
    "begin": ("name", "name", "name"),
    "ask": ("name", "sign"),
    "serve": ("number",),
    "look": (),
    "sums": (),
    "share": ("name", "name", "name", "fraction"),
    "charge": ("name", "name", "fraction"),
    "kept": ("name", "name", "name", "fraction", "fraction"),
    "style": ("name", "name", "name", "name", "fraction"),
    "names": (),
    "undo": (),
}
WITH_TEXT = ("system", "machine")


def _has_kind(word, kind):
    """Whether a word is of this kind."""
    if kind == "name":
        return is_name(word)
    if kind == "sign":
        return is_sign(word)
    if kind == "number":
        return is_number(word)
    parts = word.split("/")
    return len(parts) == 2 and is_number(parts[0]) and is_number(parts[1])


def _told(word, kind):
    """What a word of this kind stands for."""
    if kind == "sign":
        return name_of(word)
    if kind == "number":
        return int(word)
    if kind == "fraction":
        return tuple([int(part) for part in word.split("/")])
    return word


def _order_with_text(line, words):
    """As order_of, for the words that have a text behind the name."""
    if len(words) < 3 or not is_name(words[1]):
        raise NoLine()
    text = line[len(words[0]) + len(words[1]) + 2:]
    return words[0], [words[1], "\n".join(text.split("|"))]


def order_of(line):
    """The pair of the first word of a line and the list of what the others stand for, or NoLine."""
    if not isinstance(line, str) or "\n" in line:
        raise NoLine()
    words = line.split(" ")
    if words[0] in WITH_TEXT:
        return _order_with_text(line, words)
    if words[0] not in FORMS or len(words) != len(FORMS[words[0]]) + 1:
        raise NoLine()
    told = list(zip(words[1:], FORMS[words[0]]))
    if not all([_has_kind(word, kind) for word, kind in told]):
        raise NoLine()
    return words[0], [_told(word, kind) for word, kind in told]
