"""Folding events into a base (point [38])."""

from partmeet.base.answers import counter, head_pairs, members, shown_pairs
from partmeet.data.events import CLIENT_WORDS, dot_of, height_of, op_of
from partmeet.data.vectors import knows


def folded(base, held, cut):
    """Return the new base into which the events were folded that the cut has, and the list of the others."""
    gone = [event for event in held if knows(cut, dot_of(event))]
    left = [event for event in held if not knows(cut, dot_of(event))]
    new = base.fork()
    new.vector = cut
    new.height = max([base.height] + [height_of(event) for event in gone])
    told = by_key(gone)
    for key in told:
        fold_key(new, base, told[key], key)
    return new, left


def by_key(events):
    """Return a dict: for each key that operations of clients name the events that do so, in their order."""
    told = {}
    for event in events:
        op = op_of(event)
        if op[0] in CLIENT_WORDS:
            told.setdefault(op[1], []).append(event)
    return told


def fold_key(new, base, gone, key):
    """Put the answers of a base and the events of a key into a new base."""
    put(new.registers, key, head_pairs(base, gone, key))
    put(new.counters, key, counter(base, gone, key))
    put(new.sets, key, members(base, gone, key))
    put(new.texts, key, shown_pairs(base, gone, key))


def put(table, key, answer):
    """Let a dict tell an answer for a key, or nothing, if there is nothing to tell."""
    if answer:
        table[key] = answer
    else:
        table.pop(key, None)
