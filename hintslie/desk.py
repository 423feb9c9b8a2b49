"""A desk at which systems and machines are kept, and a match goes on, by lines (12)."""

from hintslie.errors import NoMatch, NoName, NothingDone
from hintslie.matches import Match
from hintslie.orders import order_of
from hintslie.reading import read_machine, read_system
from hintslie.shares import least_charge, least_share
from hintslie.styles import style_share
from hintslie.tables import kept
from hintslie.texts import view_text
from hintslie.words import sign_of

DONE = "ok"
NOTHING = "none"


def _fraction_text(told):
    """P/Q, or the word for None."""
    return NOTHING if told is None else str(told[0]) + "/" + str(told[1])


class Desk:
    """Systems and machines under names, and at most one match."""

    def __init__(self):
        self._systems = {}
        self._machines = {}
        self._match = None
        # For each line that can be taken back what stood ahead of it, or None for a step of the match. The dicts are
        # never changed, but replaced, so that those that stood ahead are still what they were.
        self._done = []

    def tell(self, line):
        """Do a line, and return its answer."""
        actions = {
            "system": self._keep_system, "machine": self._keep_machine, "drop": self._drop, "begin": self._begin,
            "ask": self._ask, "serve": self._serve, "look": self._look, "sums": self._sums, "share": self._share,
            "charge": self._charge, "kept": self._kept, "style": self._style, "names": self._names,
            "undo": self._undo,
        }
        word, told = order_of(line)
        action = actions[word]
        return action(*told)

    def undoable(self):
        """How many lines can be taken back."""
        return len(self._done)

    def would(self, line):
        """The answer that a line would have; the desk stays as it is."""
        other = Desk()
        other._systems = self._systems
        other._machines = self._machines
        other._match = None if self._match is None else self._match.copy()
        other._done = list(self._done)
        return other.tell(line)

    def _replace(self, systems, machines, match):
        """Put these in the place of what there is, so that it can be taken back."""
        self._done.append((self._systems, self._machines, self._match))
        self._systems = systems
        self._machines = machines
        self._match = match
        return DONE

    def _keep_system(self, name, text):
        system = read_system(text)
        return self._replace({**self._systems, name: system}, self._machines, self._match)

    def _keep_machine(self, name, text):
        machine = read_machine(text)
        return self._replace(self._systems, {**self._machines, name: machine}, self._match)

    def _drop(self, name):
        if name not in self._systems and name not in self._machines:
            raise NoName(name)
        systems = {other: self._systems[other] for other in self._systems if other != name}
        machines = {other: self._machines[other] for other in self._machines if other != name}
        return self._replace(systems, machines, self._match)

    def _named(self, system, machine):
        """The system and the machine of these names."""
        if system not in self._systems:
            raise NoName(system)
        if machine not in self._machines:
            raise NoName(machine)
        return self._systems[system], self._machines[machine]

    def _begin(self, system, machine, mode):
        one, other = self._named(system, machine)
        return self._replace(self._systems, self._machines, Match(one, other, mode))

    def _going(self):
        """The match, if there is one."""
        if self._match is None:
            raise NoMatch()
        return self._match

    def _ask(self, request, hint):
        self._going().ask((request, hint))
        self._done.append(None)
        return DONE

    def _serve(self, post):
        self._going().answer(post)
        self._done.append(None)
        return DONE

    def _look(self):
        if self._match is None:
            return NOTHING
        text = view_text(self._match.view)
        asked = self._match.asked
        return text if asked is None else text + " ? " + asked[0] + " " + sign_of(asked[1])

    def _sums(self):
        match = self._going()
        return " ".join([str(many) for many in (match.rounds, match.paid, match.wisest, match.lies)])

    def _share(self, system, machine, mode, charge):
        one, other = self._named(system, machine)
        return _fraction_text(least_share(one, other, mode, charge))

    def _charge(self, system, machine, share):
        one, other = self._named(system, machine)
        return _fraction_text(least_charge(one, other, share))

    def _kept(self, system, machine, mode, share, charge):
        one, other = self._named(system, machine)
        return "yes" if kept(one, other, mode, share, charge) else "no"

    def _style(self, system, machine, mode, style, charge):
        one, other = self._named(system, machine)
        return _fraction_text(style_share(one, other, mode, style, charge))

    def _names(self):
        return " ".join(sorted(self._systems)) if len(self._systems) > 0 else NOTHING

    def _undo(self):
        if len(self._done) == 0:
            raise NothingDone()
        before = self._done.pop()
        if before is None:
            # The match of the step is the one that goes on now: whatever came later has been taken back.
            self._match.back(1)
        else:
            self._systems, self._machines, self._match = before
        return DONE
