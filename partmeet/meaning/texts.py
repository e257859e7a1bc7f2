"""What events mean for texts (points [31] and [32])."""

from partmeet.data.events import dot_of, events_with, height_of, op_of


def line_of(events, key):
    """Return the dots of all places of the key, erased or not, in the order of the line."""
    return row_below(places_below(events, key), None)


def row_below(below, after):
    """Return the dots of all places that hang below one, at whatever depth, in the order of the line.

    `below` is as `places_below` tells it; below None all places of the tree hang.
    """
    row = []
    # A text that was typed hangs as deep as it is long, so the tree is walked without recursion.
    waiting = list(below.get(after, []))
    while waiting:
        dot = waiting.pop()
        row.append(dot)
        waiting.extend(below.get(dot, []))
    return row


def places_below(events, key):
    """Return a dict: for each `after` the dots of the places that hang there, what comes first in the line last."""
    below = {}
    for event in sorted(events_with(events, "insert", key), key=rank_of):
        below.setdefault(op_of(event)[2], []).append(dot_of(event))
    return below


def rank_of(event):
    """Return what orders places that hang at one place."""
    # Events that are right need no n here: the heights of a site ascend.
    # It makes the line of others, too, the same for all orders of the list.
    return (height_of(event), dot_of(event))


def erased_in(events, key):
    """Return a dict that has the dots of the places of the key that are erased."""
    return {op_of(event)[2]: True for event in events_with(events, "erase", key)}


def signs_in(events, key):
    """Return a dict: for each place of the key its sign."""
    return {dot_of(event): op_of(event)[3] for event in events_with(events, "insert", key)}


def places_of(events, key):
    """Return the dots of the shown places of the key, in the order of the line."""
    erased = erased_in(events, key)
    return [dot for dot in line_of(events, key) if dot not in erased]


def text_of(events, key):
    """Return the text of the key."""
    signs = signs_in(events, key)
    return "".join([signs[dot] for dot in places_of(events, key)])
