"""Sites (points [51] to [60])."""

from partmeet.base.answers import counter, heads, latest, members, places, text
from partmeet.base.base import Base, base_of
from partmeet.base.folding import folded
from partmeet.data.events import dot_of, height_of, is_event, op_of, seen_of
from partmeet.data.vectors import NO_VECTOR, covers, joined, knows, raised
from partmeet.errors import Malformed, NoPlace, NotReady, OutOfRange, Retired
from partmeet.knowing.cuts import cut_of
from partmeet.knowing.knowing import Knowing, knowing_of
from partmeet.knowing.shapes import is_knowing_data, is_row_of_vectors

MOST_NEWS = 20


class Site:
    """A site of a plan: it writes alone, hears what others say, and forgets what all have seen."""

    def __init__(self, number, size, first):
        """Make a new site of a plan of a size with these first sites."""
        self.number = number
        self.size = size
        self.vector = NO_VECTOR
        self.base = Base()
        self.held = []
        self.waiting = []
        self.knowing = Knowing(number, size, first)
        self._heard = [NO_VECTOR] * size
        self._fresh = []

    def write(self, op):
        """Write an operation of clients; return the dot of the event. Raises Retired, NoPlace."""
        self._refuse_if_retired()
        if op[0] in ("insert", "erase") and op[2] is not None and op[2] not in self.places(op[1]):
            raise NoPlace("the place is not shown here")
        return self._step(op)

    def admit(self, other):
        """Admit another site; return the dot of the event. Raises Retired, OutOfRange."""
        self._refuse_if_retired()
        if not self._is_of_plan(other) or other in self.knowing.counting() or other in self.knowing.retiring:
            raise OutOfRange("this site cannot be admitted")
        return self._step(("admit", other))

    def may_hand(self, other):
        """Return True if the site may hand another one."""
        return self.knowing.may_hand(other)

    def hand(self, other):
        """Hand another site; return what is handed. Raises Retired, NotReady."""
        self._refuse_if_retired()
        if not self.may_hand(other):
            raise NotReady("this site may not be handed anything yet")
        self._step(("begin", other))
        base_data, held, _, heard = self.image()
        knowing_data = self.knowing.handed(other).as_data()
        return (base_data, held, knowing_data, heard[:other] + (self.vector,) + heard[other + 1:])

    def retire(self, other, absent):
        """Retire another site, with sites that have not begun; return the dot, or None if it is retiring already.

        Raises Retired, OutOfRange.
        """
        self._refuse_if_retired()
        if other == self.number or not self._is_of_plan(other):
            raise OutOfRange("this site cannot be retired here")
        if other in self.knowing.retiring:
            return None
        return self._step(("retire", other, absent))

    def _refuse_if_retired(self):
        """Raise Retired if the site knows itself to be retiring."""
        if self.number in self.knowing.retiring:
            raise Retired("the site is retired")

    def _is_of_plan(self, site):
        """Return True if there is such a site in the plan."""
        return 0 <= site < self.size

    def _step(self, op):
        """Write an operation, and what is due behind it; return the dot of its event."""
        dot = self._write_event(op)
        self._end_step()
        return dot

    def _write_event(self, op):
        """Write an event; return its dot."""
        height = 1 + max([self.base.height] + [height_of(event) for event in self.held])
        event = (self.number, self.vector[self.number] + 1, self.vector, height, op)
        self.take(event)
        self._fresh.append(event)
        return dot_of(event)

    def _end_step(self):
        """Write the ack that is wanted; let go what waits in vain."""
        if self.knowing.wants_ack():
            self._write_event(("ack", self.knowing.retiring))
        self.waiting = [event for event in self.waiting if dot_of(event)[0] not in self.knowing.over]

    def hear(self, sender, news):
        """Hear the news of another site."""
        _, vector, events = news
        self._let_wait(events)
        self._hear_vector(sender, vector)
        event = self._next_event()
        while event is not None:
            self.take(event)
            self._fresh.append(event)
            event = self._next_event()
        self.knowing.tell(sender, vector)
        self._end_step()

    def _let_wait(self, events):
        """Put the events behind the waiting ones that may be taken some day."""
        waits = {dot_of(event): True for event in self.waiting}
        for event in events:
            dot = dot_of(event)
            if not knows(self.vector, dot) and dot not in waits and dot[0] not in self.knowing.over:
                self.waiting.append(event)
                waits[dot] = True

    def _next_event(self):
        """Return the first waiting event that the site can take, or None."""
        for event in self.waiting:
            site, n = dot_of(event)
            if n == self.vector[site] + 1 and covers(self.vector, seen_of(event)):
                if self.knowing.may_take(event, self._heard):
                    return event
        return None

    def take(self, event):
        """Take an event, without asking anything: it is known, held and noted, and waits no more."""
        site, n = dot_of(event)
        reached = raised(seen_of(event), (site, n))
        self.waiting = [other for other in self.waiting if dot_of(other) != (site, n)]
        self.held.append(event)
        self.knowing.note(event)
        self.vector = self.knowing.told[self.number]
        self._hear_vector(site, reached)
        if op_of(event)[0] == "begin":
            self._hear_vector(op_of(event)[1], reached)
        self._heard[self.number] = self.vector

    def _hear_vector(self, site, vector):
        """Hear of a site that it knows all that a vector has."""
        self._heard[site] = joined(self._heard[site], vector)

    def news_for(self, receiver):
        """Return the news for another site."""
        unheard = [event for event in self.held if not knows(self._heard[receiver], dot_of(event))]
        return ("news", self.vector, tuple(unheard[:MOST_NEWS]))

    def forget(self):
        """Fold the held events that the cut has into the base; return their number."""
        cut = self.cut()
        many = len([event for event in self.held if knows(cut, dot_of(event))])
        if many > 0:
            self.base, self.held = folded(self.base, self.held, cut)
        return many

    def stable(self):
        """Return the stable vector."""
        return self.knowing.stable()

    def cut(self):
        """Return the cut."""
        return cut_of(self.stable(), self.held)

    def heard(self, other):
        """Return the vector that was heard of a site."""
        return self.vector if other == self.number else self._heard[other]

    def fresh(self):
        """Return the events that were written or heard since this was asked last, in order."""
        events = self._fresh
        self._fresh = []
        return events

    def latest(self, key):
        """Return the register of a key."""
        return latest(self.base, self.held, key)

    def heads(self, key):
        """Return the dots of the heads of a key."""
        return heads(self.base, self.held, key)

    def counter(self, key):
        """Return the counter of a key."""
        return counter(self.base, self.held, key)

    def members(self, key):
        """Return the members of a key."""
        return members(self.base, self.held, key)

    def text(self, key):
        """Return the text of a key."""
        return text(self.base, self.held, key)

    def places(self, key):
        """Return the dots of the shown places of a key."""
        return places(self.base, self.held, key)

    def image(self):
        """Return the image of the site."""
        return (self.base.as_data(), tuple(self.held), self.knowing.as_data(), tuple(self._heard))

    def fork(self):
        """Return a new site in the same state, with nothing fresh."""
        twin = Site(self.number, self.size, ())
        twin.vector = self.vector
        twin.base = self.base.fork()
        twin.held = list(self.held)
        twin.waiting = list(self.waiting)
        twin.knowing = self.knowing.fork()
        twin._heard = list(self._heard)
        return twin


def site_of(data):
    """Return the site of an image. Raises Malformed if the data have another shape."""
    if not isinstance(data, tuple) or len(data) != 4:
        raise Malformed("an image has four parts")
    base_data, held, knowing_data, heard = data
    if not isinstance(held, tuple) or not all([is_event(event) for event in held]):
        raise Malformed("what is held are no events")
    if not is_knowing_data(knowing_data) or not is_row_of_vectors(heard, knowing_data[1]):
        raise Malformed("the data tell nothing of others")
    knowing = knowing_of(knowing_data)
    site = Site(knowing.number, knowing.size, ())
    site.vector = knowing.told[knowing.number]
    site.base = base_of(base_data)
    site.held = list(held)
    site.knowing = knowing
    site._heard = list(heard)
    return site
