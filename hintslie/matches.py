"""Matches: plays that go on ask by ask and answer by answer, and plays of the styles (8)."""

from hintslie.checks import check_fractions, check_mode
from hintslie.errors import BadAsk, BadAsks, BadNumber, BadPost, NotNow
from hintslie.habits import check_style, gone_through
from hintslie.kinds import is_integer, is_row
from hintslie.steps import Steps
from hintslie.terms import lowest, units, weight, worths
from hintslie.views import first_view


class Match:
    """A play from the first view.

    `mode` is its mode, `view` is where it stands, `asked` the ask that is not answered yet, or None; `rounds`,
    `paid`, `wisest` and `lies` are the number of the rounds done and the sums of their prices, rises and lies.
    """

    def __init__(self, system, machine, mode):
        check_mode(system, machine, mode)
        self.mode = mode
        self.view = first_view(system)
        self.asked = None
        self.rounds = self.paid = self.wisest = self.lies = 0
        self._source = (system, machine)
        self._steps = Steps(system, machine, mode)
        # How it stood ahead of each ask and each answer, and the rounds done.
        self._past = []
        self._history = []

    def _standing(self):
        return self.view, self.asked, self.rounds, self.paid, self.wisest, self.lies

    def ask(self, ask):
        """Ask; the ask then waits for its answer."""
        if self.asked is not None:
            raise NotNow()
        if ask not in self._steps.asks_at(self.view):
            raise BadAsk()
        self._past.append(self._standing())
        self.asked = ask

    def answer(self, post):
        """Serve at the post what was asked."""
        if self.asked is None:
            raise NotNow()
        if not is_integer(post) or post not in self._steps.posts_for(self.asked[0]):
            raise BadPost(post)
        self._past.append(self._standing())
        self._history.append((self.asked[0], self.asked[1], post))
        self.view, price, rise, lie = self._steps.answered_at(self.view, self.asked, post)
        self.asked = None
        self.rounds += 1
        self.paid += price
        self.wisest += rise
        self.lies += lie

    def balance(self, share, charge):
        """The balance with these terms, as a pair (top, bottom) without a common divisor."""
        check_fractions(share, charge)
        return lowest(weight(worths(share, charge), self.paid, self.wisest, self.lies), units(share, charge))

    def back(self, many):
        """Take back the last asks and answers, so many of them in all."""
        if not is_integer(many) or not 1 <= many <= len(self._past):
            raise BadNumber()
        self.view, self.asked, self.rounds, self.paid, self.wisest, self.lies = self._past[-many]
        del self._past[-many:]
        del self._history[self.rounds:]

    def history(self):
        """The list of the tuples (request, hint, post) of the rounds done."""
        return list(self._history)

    def copy(self):
        """Another match that stands like this one and goes on apart."""
        system, machine = self._source
        other = Match(system, machine, self.mode)
        other.view, other.asked, other.rounds, other.paid, other.wisest, other.lies = self._standing()
        other._past = list(self._past)
        other._history = list(self._history)
        return other

    def trying(self, action):
        """What the action returns for this match, which then stands as it stood, also if an error is raised."""
        view, asked, rounds, paid, wisest, lies = self._standing()
        past = list(self._past)
        history = list(self._history)
        try:
            return action(self)
        finally:
            self.view, self.asked, self.rounds = view, asked, rounds
            self.paid, self.wisest, self.lies = paid, wisest, lies
            self._past, self._history = past, history


def played(system, machine, mode, style, asks):
    """The tuple (posts, paid, wisest, lies) of the play in which a player of the style answers the asks."""
    check_style(system, machine, mode, style)
    if not is_row(asks):
        raise BadAsks(-1)
    _, posts, paid, risen, lies = gone_through(Steps(system, machine, mode), style, first_view(system), asks)
    if len(posts) < len(asks):
        raise BadAsks(len(posts))
    return tuple(posts), paid, risen, lies
