"""What events mean for registers, counters and sets (points [28] to [30])."""

from partmeet.data.events import dot_of, events_with, op_of, seen_of
from partmeet.data.keys import value_order
from partmeet.data.vectors import NO_VECTOR, joined, knows


def head_events(events, key):
    """Return the "set" events of the key that no other one of them has in its past, in the order of dots."""
    sets = events_with(events, "set", key)
    # No event has its own dot in its past, so what all of them saw tells what some other one saw.
    saw = NO_VECTOR
    for event in sets:
        saw = joined(saw, seen_of(event))
    return sorted([event for event in sets if not knows(saw, dot_of(event))], key=dot_of)


def heads_of(events, key):
    """Return the dots of the heads of the key."""
    return [dot_of(event) for event in head_events(events, key)]


def register_of(events, key):
    """Return the values of the heads of the key, in the order of their dots."""
    return [op_of(event)[2] for event in head_events(events, key)]


def counter_of(events, key):
    """Return the sum of what was told to the counter of the key."""
    return sum([op_of(event)[2] for event in events_with(events, "inc", key)])


def members_of(events, key):
    """Return the members of the key, in the order of values."""
    removed = seen_by_removes(events, key)
    kept = []
    for event in events_with(events, "add", key):
        value = op_of(event)[2]
        if not knows(removed.get(value, NO_VECTOR), dot_of(event)):
            kept.append(value)
    return value_order(kept)


def seen_by_removes(events, key):
    """Return a dict: for each value that was removed from the key what the writers of its removes knew."""
    removed = {}
    for event in events_with(events, "remove", key):
        value = op_of(event)[2]
        removed[value] = joined(removed.get(value, NO_VECTOR), seen_of(event))
    return removed
