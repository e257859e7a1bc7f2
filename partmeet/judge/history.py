"""The judge of histories (points [91] and [92])."""

from partmeet.base.folding import by_key
from partmeet.data.events import dot_of, op_of
from partmeet.data.vectors import NO_VECTOR, covers, joined, knows
from partmeet.judge.events import beginnings_of, fault_of_events
from partmeet.twin.twin import events_of, meant
from partmeet.world.world import frozen


def fault_of_history(events, history):
    """Return the first fault of a history beside a list of events, a pair (word, place), or None."""
    fault = fault_of_events(events)
    if fault is not None:
        return fault
    judge = Judge(events)
    for at, row in enumerate(history):
        word = judge.fault_of_row(row)
        if word is not None:
            return (word, at)
    return None


class Judge:
    """Events without a fault, and what the rows of a history told so far."""

    def __init__(self, events):
        """Begin with no rows."""
        self._begun = beginnings_of(events)
        self._ops = {dot_of(event): op_of(event) for event in events}
        self._events_by_key = by_key(events)
        # For each client what it had seen.
        self._seen = {}
        self._dots_told = {}

    def fault_of_row(self, row):
        """Return the first word that applies to the next row, or None."""
        client, _, word, asked, answer, vector = row
        seen = self._seen.get(client, NO_VECTOR)
        fault = self._fault_of_vector(vector, seen)
        if fault is None and word == "write":
            fault = self._fault_of_write(asked, answer, vector)
        if fault is None and word == "read" and answer != self._meant(asked, vector):
            fault = "wrong"
        self._seen[client] = joined(seen, vector)
        return fault

    def _fault_of_vector(self, vector, seen):
        """Return the first of "unknown", "open" and "back" that applies to a row's vector, or None."""
        # Events without a fault have all of each site from its first one on.
        if any([number >= len(begun) for number, begun in zip(vector, self._begun)]):
            return "unknown"
        saw = [begun[number][0] for number, begun in zip(vector, self._begun)]
        if not all([covers(vector, one) for one in saw]):
            return "open"
        return None if covers(vector, seen) else "back"

    def _fault_of_write(self, op, dot, vector):
        """Return the first of "lost" and "twice" that applies to a write, or None."""
        if not knows(vector, dot) or self._ops.get(dot) != op:
            return "lost"
        if dot in self._dots_told:
            return "twice"
        self._dots_told[dot] = True
        return None

    def _meant(self, question, vector):
        """Return what a question means at a vector, as a row tells it."""
        word, key = question
        known = [event for event in self._events_by_key.get(key, []) if knows(vector, dot_of(event))]
        return frozen(meant(known, word, key))


def evidence_of(world):
    """Return the events that the vectors of the rows of a world's history have, and a list of these rows."""
    seen = NO_VECTOR
    for row in world.history:
        seen = joined(seen, row[5])
    return events_of(world, seen), list(world.history)
