"""The least numbers of the views that come, or a way of asking that makes the balance grow without end."""

from heapq import heapify, heappop, heappush

from hintslie.checks import check_terms
from hintslie.terms import weight, worths
from hintslie.views import graph_of


def _least_answer(answers, numbers):
    """The least of weight and number behind, together, or None if each answer leads to where there is none."""
    sums = [cost + numbers[behind] for cost, behind in answers if numbers[behind] is not None]
    return min(sums, default=None)


class Contest:
    """An asker who gets better, at the views of a graph, until no ask promises more.

    `choices[k]` is the number of the ask that the asker puts at the view k, or None to ask no more.
    `numbers[k]` is what the asker surely reaches so from there, or None if it is without end; it only grows.
    At the end these are the least numbers that a table can have: an asker who takes them for what is
    ahead gains by no ask, so a player can answer each within them.
    """

    def __init__(self, graph, worth):
        self.graph = graph
        self.choices = [None] * len(graph.views)
        self.numbers = [0] * len(graph.views)
        # What answers weigh but for a lie, which belongs to the view (see Graph).
        self._costs = [
            [(weight(worth, price, rise, 0), behind) for _, price, behind in served]
            for rise, served in graph.answers
        ]
        self._lie = weight(worth, 0, 0, 1)
        # From where the first view is lost all is said: the asks chosen lead from it in circles that grow.
        while self.numbers[0] is not None and self._choose():
            self._settle()

    def _choose(self):
        """Choose the ask that promises most wherever one promises more than is reached; whether one did."""
        promised = [_least_answer(answers, self.numbers) for answers in self._costs]
        better = False
        for view, rounds in enumerate(self.graph.rounds):
            best = self.numbers[view]
            for k, (_, lie, answered) in enumerate(rounds):
                if best is None:
                    break
                reached = promised[answered]
                if reached is not None:
                    reached += lie * self._lie
                if reached is None or reached > best:
                    best = reached
                    self.choices[view] = k
                    better = True
        return better

    def _gains(self):
        """For each view the pairs (gain, view ahead): what an answer chosen gives beyond the number ahead.

        No gain is below 0, because an ask is only chosen if each answer to it reaches the number at least.
        """
        gains = [[] for _ in self.numbers]
        for view, number in enumerate(self.numbers):
            choice = self.choices[view]
            if number is None or choice is None:
                continue
            _, lie, answered = self.graph.rounds[view][choice]
            for cost, behind in self._costs[answered]:
                if self.numbers[behind] is not None:
                    gains[behind].append((cost + lie * self._lie + self.numbers[behind] - number, view))
        return gains

    def _settle(self):
        """Work out what is reached by the choices, if the player answers at the least sums.

        A view from which no answers lead to where the asker stops is lost: the circles there all grow.
        """
        gains = self._gains()
        queue = [(0, view) for view, choice in enumerate(self.choices) if choice is None]
        heapify(queue)
        settled = {}
        while len(queue) > 0:
            gained, view = heappop(queue)
            if view in settled:
                continue
            settled[view] = self.numbers[view] + gained
            for gain, ahead in gains[view]:
                if ahead not in settled:
                    heappush(queue, (gained + gain, ahead))
        self.numbers = [settled.get(view) for view in range(len(self.numbers))]


def contest(system, machine, mode, share, charge):
    """The contest of these terms at the views that come, or the errors of the arguments and TooMany(1000)."""
    check_terms(system, machine, mode, share, charge)
    return Contest(graph_of(system, machine, mode), worths(share, charge))
