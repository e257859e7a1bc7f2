"""Writers for the tests: they write events that are right, and tell one another what they know."""

import itertools
import random

from partmeet.data.vectors import NO_VECTOR

KEYS = ("k", "t")
VALUES = (0, 1, -1, "a", "ab", "")


def event(site, n, seen, height, op):
    """Return an event; `seen` may be shorter than a vector, zeros stand for what lacks."""
    return (site, n, tuple(seen) + NO_VECTOR[len(seen):], height, op)


def has(vector, dot):
    return vector[dot[0]] >= dot[1]


class Writer:
    def __init__(self, site):
        self.site = site
        self.known = []

    def vector(self):
        return tuple([max([e[1] for e in self.known if e[0] == site], default=0) for site in range(8)])

    def write(self, op):
        seen = self.vector()
        height = 1 + max([e[3] for e in self.known], default=0)
        written = (self.site, seen[self.site] + 1, seen, height, op)
        self.known.append(written)
        return written

    def hear(self, other):
        self.known += [e for e in other.known if e not in self.known]


def shown_places(events, key):
    """The shown places of a key, by their definition, in no told order (of events in which all places hang rightly)."""
    erased = [e[4][2] for e in events if e[4][:2] == ("erase", key)]
    return sorted([e[:2] for e in events if e[4][:2] == ("insert", key) and e[:2] not in erased])


def some_op(writer, chance):
    key = chance.choice(KEYS)
    word = chance.choice(["set", "inc", "add", "add", "remove", "insert", "insert", "insert", "erase", "ack"])
    places = shown_places(writer.known, key)
    if word == "ack":
        return ("ack", (writer.site,))
    if word == "inc":
        return ("inc", key, chance.randint(-9, 9))
    if word == "insert":
        return ("insert", key, chance.choice([None] + places), chance.choice("abcxyz"))
    if word == "erase" and places:
        return ("erase", key, chance.choice(places))
    return (chance.choice(["set", "add", "remove"]), key, chance.choice(VALUES))


def some_events(seed, steps=60, sites=4):
    """Return a closed list of events that a few writers wrote, who meet at times; the same for each seed."""
    chance = random.Random(seed)
    writers = [Writer(site) for site in range(sites)]
    for _ in range(steps):
        writer = chance.choice(writers)
        if chance.random() < 0.5:
            writer.write(some_op(writer, chance))
        else:
            writer.hear(chance.choice(writers))
    everything = []
    for writer in writers:
        everything += [e for e in writer.known if e not in everything]
    return everything


def orders_of(events, seed=0, count=4):
    """Return the events in several orders."""
    chance = random.Random(seed)
    orders = [list(events), list(reversed(events)), sorted(events)]
    for _ in range(count):
        shuffled = list(events)
        chance.shuffle(shuffled)
        orders.append(shuffled)
    return orders


def past_of(events, one):
    return [e for e in events if has(one[2], e[:2])]


def meeting_events(seed, steps=30, sites=3):
    """Return a closed list of events of a few writers who write alone for a while, and at times all meet."""
    chance = random.Random(seed)
    writers = [Writer(site) for site in range(sites)]
    for _ in range(steps):
        writer = chance.choice(writers)
        writer.write(some_op(writer, chance))
        if chance.random() < 0.3:
            writer.hear(chance.choice(writers))
        if chance.random() < 0.2:
            meet(writers)
    meet(writers)
    return writers[0].known


def meet(writers):
    for writer in writers:
        for other in writers:
            writer.hear(other)


def covers(vector, other):
    return all(number >= wanted for number, wanted in zip(vector, other))


def cuts_of(events):
    """Return all cuts, ascending, that leave what goes together: all dots in the past of what is folded are folded,
    and what is left has all of it in its past."""
    tops = [max([e[1] for e in events if e[0] == site], default=0) for site in range(8)]
    found = []
    for cut in itertools.product(*[range(top + 1) for top in tops]):
        gone = [e for e in events if has(cut, e[:2])]
        left = [e for e in events if not has(cut, e[:2])]
        if all(covers(cut, e[2]) for e in gone) and all(covers(e[2], cut) for e in left):
            found.append(cut)
    return found
