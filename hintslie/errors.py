"""The errors of the package: each keeps what it is made with, of whatever kind."""


class HintError(ValueError):
    """The error that all errors of the package derive from."""


class BadSystem(HintError):
    """The part "moves" or "requests" of a system is not as told."""

    def __init__(self, part):
        self.part = part


class NoPost(HintError):
    """This is no post of the system."""

    def __init__(self, post):
        self.post = post


class NoRequest(HintError):
    """This is no name of a request."""

    def __init__(self, name):
        self.name = name


class BadMachine(HintError):
    """The turns of a machine are not as told."""


class Unsuited(HintError):
    """This name of the machine is no request of the system."""

    def __init__(self, name):
        self.name = name


class BadRow(HintError):
    """The item of this number is no name of a request, or, with -1, the thing is no row."""

    def __init__(self, index):
        self.index = index


class BadOffsets(HintError):
    """These are no offsets."""


class BadMode(HintError):
    """This is no mode."""


class BadView(HintError):
    """This is no view."""


class BadAsk(HintError):
    """This is no ask at the view."""


class BadPost(HintError):
    """This is no post at which the request can be served."""

    def __init__(self, post):
        self.post = post


class TooMany(HintError):
    """There are more views than this."""

    def __init__(self, most):
        self.most = most


class BadFraction(HintError):
    """This is no fraction."""


class NotKept(HintError):
    """No player keeps the terms."""


class BadStyle(HintError):
    """This is no style."""


class NotNow(HintError):
    """An ask is open where none may be, or none where one must be."""


class BadNumber(HintError):
    """This is no number of those that are let here."""


class BadAsks(HintError):
    """The item of this number is no ask in its turn, or, with -1, the thing is no row."""

    def __init__(self, index):
        self.index = index


class TooLarge(HintError):
    """What would be built is larger than systems and machines may be."""


class BadPosts(HintError):
    """These are not all posts, each once, post 0 first."""


class BadText(HintError):
    """The line of this number has not the form of the text, or, with 0, the thing is no text."""

    def __init__(self, line):
        self.line = line


class NoLine(HintError):
    """This is no line that a desk understands."""


class NoName(HintError):
    """Nothing is kept under this name."""

    def __init__(self, name):
        self.name = name


class NoMatch(HintError):
    """No match has begun."""


class NothingDone(HintError):
    """Nothing was done that could be taken back."""
