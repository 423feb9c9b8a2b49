"""What tables, liar's tables and presses have in common: they are dicts from views, the first one among them."""

from hintslie.views import first_view


def is_proof(steps, thing, is_entry, holds):
    """Whether a thing is a dict from views, the first one among them, that is as told at each view.

    `is_entry(steps, view, thing)` is asked of each value, and `holds(view)` of each view when all values are right.
    """
    if not isinstance(thing, dict):
        return False
    if not all([steps.is_view(view) and is_entry(steps, view, thing[view]) for view in thing]):
        return False
    return first_view(steps.system) in thing and all([holds(view) for view in thing])
