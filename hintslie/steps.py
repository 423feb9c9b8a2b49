"""What can be asked and answered at a view, and what comes of it, for arguments that are right ones (4.1 to 4.4)."""

from hintslie.kinds import is_below, is_known, is_tuple_of
from hintslie.knowledge import is_offsets, risen


def lie_told(view, ask):
    """1 if a hint lies open at the view and the ask has another request, otherwise 0."""
    return 0 if view[3] is None or view[3] == ask[0] else 1


class Steps:
    """The asks and answers of a system, a machine that suits it, and a mode.

    It keeps the rises that it has worked out, because views that differ in the post alone share them.
    """

    def __init__(self, system, machine, mode):
        self.system = system
        self.mode = mode
        self._turns = machine.turns
        self._risen = {}

    def is_view(self, thing):
        """Whether a thing is a view."""
        if not is_tuple_of(thing, 4):
            return False
        state, post, offsets, hint = thing
        if not is_below(state, len(self._turns)) or not is_below(post, self.system.posts):
            return False
        return is_offsets(self.system, offsets) and self._is_hint(state, hint)

    def _is_hint(self, state, hint):
        return hint is None or (self.mode != "none" and is_known(hint, self._turns[state]))

    def _hints(self, state):
        """The hints that can come with a request that leads to this state."""
        return [None] if self.mode == "none" else sorted(self._turns[state])

    def asks_at(self, view):
        """All asks at the view, the requests ascending, for each the hints ascending."""
        turn = self._turns[view[0]]
        hint = view[3]
        requests = [hint] if self.mode == "true" and hint is not None else sorted(turn)
        return [(request, after) for request in requests for after in self._hints(turn[request])]

    def posts_for(self, request):
        """The posts at which the request can be served."""
        prices = self.system.prices(request)
        return [post for post in range(self.system.posts) if prices[post] is not None]

    def risen_by(self, offsets, request):
        """The pair of the offsets behind the request and the rise."""
        key = (offsets, request)
        if key not in self._risen:
            self._risen[key] = risen(self.system, offsets, request)
        return self._risen[key]

    def answered_at(self, view, ask, post):
        """The tuple (view, price, rise, lie) that comes of serving the ask at the post."""
        state, place, offsets, _ = view
        request, after = ask
        behind, rise = self.risen_by(offsets, request)
        price = self.system.ways[place][post] + self.system.prices(request)[post]
        return (self._turns[state][request], post, behind, after), price, rise, lie_told(view, ask)

    def results(self, view, ask):
        """What comes of each answer to the ask, in the order of the posts."""
        return [self.answered_at(view, ask, post) for post in self.posts_for(ask[0])]
