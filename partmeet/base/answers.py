"""The answers of a base and held events (points [36] and [37])."""

from partmeet.data.events import dot_of, op_of
from partmeet.data.keys import value_order
from partmeet.meaning.texts import erased_in, places_below, row_below, signs_in
from partmeet.meaning.values import counter_of, head_events, members_of, seen_by_removes


def head_pairs(base, held, key):
    """Return the pairs (dot, value) of the heads, in the order of dots."""
    # Each held event has the whole base in its past, so one held "set" replaces all heads of the base.
    events = head_events(held, key)
    if len(events) > 0:
        return [(dot_of(event), op_of(event)[2]) for event in events]
    return list(base.registers.get(key, []))


def heads(base, held, key):
    """Return the dots of the heads of the key."""
    return [dot for dot, value in head_pairs(base, held, key)]


def latest(base, held, key):
    """Return the register of the key: the values of its heads, in the order of their dots."""
    return [value for dot, value in head_pairs(base, held, key)]


def counter(base, held, key):
    """Return the counter of the key."""
    return base.counters.get(key, 0) + counter_of(held, key)


def members(base, held, key):
    """Return the members of the key, in the order of values."""
    removed = seen_by_removes(held, key)
    kept = [value for value in base.sets.get(key, []) if value not in removed]
    return value_order(kept + members_of(held, key))


def shown_pairs(base, held, key):
    """Return the pairs (dot, sign) of the shown places of the key, in the order of the line."""
    below = places_below(held, key)
    signs = signs_in(held, key)
    erased = erased_in(held, key)
    line = row_below(below, None)
    for dot, sign in base.texts.get(key, []):
        signs[dot] = sign
        line.append(dot)
        line.extend(row_below(below, dot))
    return [(dot, signs[dot]) for dot in line if dot not in erased]


def places(base, held, key):
    """Return the dots of the shown places of the key, in the order of the line."""
    return [dot for dot, sign in shown_pairs(base, held, key)]


def text(base, held, key):
    """Return the text of the key."""
    return "".join([sign for dot, sign in shown_pairs(base, held, key)])
