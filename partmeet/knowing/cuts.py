"""Cuts: what a site may forget of what is stable (point [45])."""

from partmeet.data.events import dot_of, seen_of
from partmeet.data.vectors import covers, knows, least


def cut_of(stable, held):
    """Return the cut of a stable vector and a list of held events."""
    cut = stable
    lower = lowered(cut, held)
    # A cut that was lowered may leave an event that it had before, so all are asked again.
    while lower != cut:
        cut = lower
        lower = lowered(cut, held)
    return cut


def lowered(cut, held):
    """Ask each held event once; return the least of a cut and of what those saw that do not go together with it."""
    for event in held:
        if not knows(cut, dot_of(event)) and not covers(seen_of(event), cut):
            cut = least([cut, seen_of(event)])
    return cut
