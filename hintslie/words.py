"""What the texts and the lines of a desk are made of: numbers, and names with a sign for none (11.1, 11.2)."""

from hintslie.errors import BadText
from hintslie.kinds import is_name

DIGITS = "0123456789"
MOST_DIGITS = 9
NO_NAME = "-"


def is_number(word):
    """Whether a word is a number in decimal, without a sign and without zeros ahead, of at most 9 digits."""
    if not 1 <= len(word) <= MOST_DIGITS or not all([letter in DIGITS for letter in word]):
        return False
    return word == "0" or word[0] != "0"


def is_sign(word):
    """Whether a word is a name, or the sign for none."""
    return word == NO_NAME or is_name(word)


def sign_of(name):
    """The word for a name or None."""
    return NO_NAME if name is None else name


def name_of(word):
    """The name or None for which a word stands."""
    return None if word == NO_NAME else word


def lines_of(text):
    """The lines of a text, and as the last item what stands behind its last line feed; BadText(0) for no string."""
    if not isinstance(text, str):
        raise BadText(0)
    return text.split("\n")


def check_closed(lines):
    """Raise BadText, with the number of lines and 1, if something stands behind the last line feed."""
    if lines[-1] != "":
        raise BadText(len(lines))
