"""The least numbers of the views that come, or a way of asking that makes the balance grow without end."""

from heapq import heapify, heappop, heappush

from hintslie.checks import check_terms
from hintslie.terms import weight, worths
from hintslie.views import graph_of


def answer_costs(graph, worth):
    """For each number of answers in a graph the pairs (cost, view behind): what they weigh but for a lie.

    A lie belongs to the view, and views that differ in it share their answers (see Graph).
    """
    return [
        [(weight(worth, price, rise, 0), behind) for _, price, behind in served]
        for rise, served in graph.answers
    ]


def promises(costs, numbers):
    """For each number of answers the least cost and number behind, together, that the player can choose."""
    return [min([cost + numbers[behind] for cost, behind in answers]) for answers in costs]


class Contest:
    """An asker who gets better, at the views of a graph, until no ask promises more.

    `choices[k]` is the number of the ask that the asker puts at the view k, or None to ask no more.
    `numbers[k]` is what the asker surely reaches so from there, or None if it is without end.
    At the end these are the least numbers that a table can have: an asker who takes them for what is
    ahead gains by no ask, so a player can answer each within them.

    Other rounds than those of the graph may be given, to let fewer asks, and with them what the asker reaches at
    each view by asking no more, at least 0.
    """

    def __init__(self, graph, worth, rounds=None, stops=None):
        self.graph = graph
        self.choices = [None] * len(graph.views)
        self._costs = answer_costs(graph, worth)
        lies = (0, weight(worth, 0, 0, 1))
        self._asked = [
            [(answered, lies[lie]) for _, lie, answered in told]
            for told in (graph.rounds if rounds is None else rounds)
        ]
        # What is reached grows only. Without a circle it is the sum of one weight for each view at most, and what
        # is reached where the asker stops; this is so far above that it stands for what is without end, whatever
        # is added to it.
        most = max([abs(cost) for answers in self._costs for cost, _ in answers])
        self._reached = [0] * len(graph.views) if stops is None else list(stops)
        self._endless = (len(graph.views) + 3) * (most + abs(lies[1]) + 1) + max(self._reached)
        # From where the first view is lost all is said: the asks chosen lead from it in circles that grow.
        while self._reached[0] < self._endless and self._choose():
            self._settle()
        self.numbers = [None if number == self._endless else number for number in self._reached]

    def _choose(self):
        """Choose the ask that promises most wherever one promises more than is reached; whether one did."""
        reached = self._reached
        promised = promises(self._costs, reached)
        better = False
        for view, asked in enumerate(self._asked):
            if reached[view] == self._endless:
                continue
            sums = [promised[answered] + lie for answered, lie in asked]
            best = max(sums)
            if best > reached[view]:
                self.choices[view] = sums.index(best)
                better = True
        return better

    def _gains(self):
        """For each view the pairs (gain, view ahead): what an answer chosen gives beyond the number ahead.

        No gain is below 0, because an ask is only chosen if each answer to it reaches the number at least.
        """
        reached = self._reached
        gains = [[] for _ in reached]
        for view, choice in enumerate(self.choices):
            if choice is None or reached[view] == self._endless:
                continue
            answered, lie = self._asked[view][choice]
            for cost, behind in self._costs[answered]:
                if reached[behind] != self._endless:
                    gains[behind].append((cost + lie + reached[behind] - reached[view], view))
        return gains

    def _settle(self):
        """Work out what is reached by the choices, if the player answers at the least sums.

        A view from which no answers lead to where the asker stops is lost: the circles there all grow.
        """
        gains = self._gains()
        queue = [(0, view) for view, choice in enumerate(self.choices) if choice is None]
        heapify(queue)
        settled = {}
        while len(queue) > 0:
            gained, view = heappop(queue)
            if view in settled:
                continue
            settled[view] = self._reached[view] + gained
            for gain, ahead in gains[view]:
                if ahead not in settled:
                    heappush(queue, (gained + gain, ahead))
        self._reached = [settled.get(view, self._endless) for view in range(len(self._reached))]


def contest(system, machine, mode, share, charge):
    """The contest of these terms at the views that come, or the errors of the arguments and TooMany(1000)."""
    check_terms(system, machine, mode, share, charge)
    return Contest(graph_of(system, machine, mode), worths(share, charge))
