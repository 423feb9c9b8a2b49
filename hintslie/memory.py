"""What a player need know: views, and states of machines, that are alike (15)."""

from hintslie.checks import check_mode
from hintslie.kinds import is_row
from hintslie.machines import Machine, met_turns
from hintslie.texts import view_text
from hintslie.views import graph_of


def _numbered(keys):
    """A number for each item of a row of keys, the same one for equal ones, from 0 on."""
    numbers = {}
    for key in keys:
        if key not in numbers:
            numbers[key] = len(numbers)
    return [numbers[key] for key in keys]


def _coarsest(many, refined):
    """The coarsest partition of so many things of which `refined(parts)` makes no more parts.

    A partition is a list of the numbers of the parts, one for each thing.
    """
    parts = [0] * many
    finer = refined(parts)
    while max(finer) > max(parts):
        parts = finer
        finer = refined(parts)
    return parts


def _refined_views(graph, parts):
    """The partition of the views of a graph by what comes of each answer, with the part of the view behind."""
    answers = _numbered([
        (rise, tuple([(post, price, parts[behind]) for post, price, behind in served]))
        for rise, served in graph.answers
    ])
    return _numbered([
        tuple([(ask, lie, answers[answered]) for ask, lie, answered in rounds])
        for rounds in graph.rounds
    ])


def _first_text(part):
    return view_text(part[0])


def memory(system, machine, mode):
    """The parts of views that are alike, as tuples, by their texts."""
    check_mode(system, machine, mode)
    graph = graph_of(system, machine, mode)

    def refined(parts):
        """The partition by what comes of each answer."""
        return _refined_views(graph, parts)

    found = [[] for _ in graph.views]
    for view, part in zip(graph.views, _coarsest(len(graph.views), refined)):
        found[part].append(view)
    return sorted([tuple(sorted(part, key=view_text)) for part in found if len(part) > 0], key=_first_text)


def _parts_of(graph, thing):
    """The numbers of the tuples in which the views of a graph are; None unless each is in just one of a row, once."""
    if not is_row(thing) or not all([isinstance(part, tuple) and len(part) > 0 for part in thing]):
        return None
    views = [view for part in thing for view in part]
    if len(views) != len(graph.views) or not all([graph.steps.is_view(view) for view in views]):
        return None
    told = {view: number for number, part in enumerate(thing) for view in part}
    if not all([view in told for view in graph.views]):
        return None
    return [told[view] for view in graph.views]


def is_memory(system, machine, mode, thing):
    """Whether a thing is a partition of the views that come into parts of such that are alike."""
    check_mode(system, machine, mode)
    graph = graph_of(system, machine, mode)
    parts = _parts_of(graph, thing)
    if parts is None:
        return False
    finer = _refined_views(graph, parts)
    # What comes at one view of each part must come at all others of it.
    one = {part: finer[view] for view, part in enumerate(parts)}
    return all([finer[view] == one[part] for view, part in enumerate(parts)])


def _refined_states(turns, parts):
    """The partition of states by the names that they let and the parts to which these lead."""
    return _numbered([tuple([(name, parts[turn[name]]) for name in sorted(turn)]) for turn in turns])


def lesser_machine(machine):
    """The machine that lets the same rows with as few states as can be."""
    turns = machine.turns

    def refined(parts):
        """The partition by names and what they lead to."""
        return _refined_states(turns, parts)

    alike = _coarsest(machine.states, refined)
    lesser = {alike[state]: {name: alike[turn[name]] for name in turn} for state, turn in enumerate(turns)}
    return Machine(met_turns(lesser, alike[0]))
