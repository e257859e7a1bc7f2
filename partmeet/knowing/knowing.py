"""What a site knows of the others: who is there, what they know, who is lost (points [41] to [49])."""

from partmeet.data.events import dot_of, op_of, seen_of
from partmeet.data.vectors import NO_VECTOR, joined, knows, least, raised


class Knowing:
    """What the site with a number knows of the sites of its plan."""

    def __init__(self, number, size, first):
        """Begin with the first sites of a plan of a size."""
        self.number = number
        self.size = size
        self.told = [NO_VECTOR] * size
        self.present = all_of(first, (number,))
        # For each site that is coming its admit.
        self.coming = {}
        self.retiring = ()
        self.over = ()
        # For each site the sites that its last ack names, and those that it is known not to have handed.
        self.acks = [()] * size
        self.absent = [()] * size

    def note(self, event):
        """An event is taken or written."""
        dot = dot_of(event)
        op = op_of(event)
        reached = raised(seen_of(event), dot)
        if op[0] == "admit":
            # The site that comes is told what was stable ahead of this event, so this stands first.
            self._admit(op[1], dot)
        self._join(dot[0], reached)
        self._join(self.number, raised(NO_VECTOR, dot))
        if op[0] == "begin":
            self._begin(op[1], reached)
        if op[0] == "retire":
            self._retire(op[1], op[2])
        if op[0] == "ack":
            self._ack(dot[0], op[1])

    def tell(self, sender, vector):
        """Another site tells its vector."""
        # An event of the sender that is not known yet may have been written when its writer knew less.
        if vector[sender] <= self.told[self.number][sender]:
            self._join(sender, vector)

    def _join(self, site, vector):
        """Let what a site was told become the join with a vector."""
        self.told[site] = joined(self.told[site], vector)

    def _admit(self, site, dot):
        """An event with this dot admits a site."""
        if site not in self.present and site not in self.coming:
            ahead = self.stable()
            self.coming[site] = dot
            self._join(site, ahead)

    def _begin(self, site, reached):
        """A site begins with all that a vector has."""
        self._join(site, reached)
        self.present = all_of(self.present, (site,))
        self.coming.pop(site, None)

    def _retire(self, site, absent):
        """A site is lost, and did not hand the absent ones."""
        self.retiring = all_of(self.retiring, (site,))
        self.absent[site] = all_of(self.absent[site], absent)
        self._find_over()

    def _ack(self, site, sites):
        """A site tells that it knows all these to be retiring."""
        self.acks[site] = sites
        self._find_over()

    def _find_over(self):
        """Let all retiring sites be over if each site whose ack is needed named them all."""
        for site in self.counting():
            if site not in self.retiring and not self._is_excused(site) and not has_all(self.acks[site], self.retiring):
                return
        self.over = all_of(self.over, self.retiring)

    def _is_excused(self, site):
        """Return True if another site is coming and can have been handed by no retiring one."""
        if site == self.number or site not in self.coming:
            return False
        return all([site in self.absent[lost] for lost in self.retiring])

    def stable(self):
        """Return the stable vector."""
        awaited = [self.told[site] for site in self.counting() if site not in self.over]
        return least(awaited + [self.told[self.number]])

    def counting(self):
        """Return the sites that count, ascending."""
        return all_of(self.present, tuple(self.coming))

    def admit_of(self, site):
        """Return the admit of a site that is coming, None for any other one."""
        return self.coming.get(site)

    def may_hand(self, other):
        """Return True if the site may hand another one."""
        admit = self.admit_of(other)
        if admit is None or other in self.retiring:
            return False
        return all([knows(self.told[site], admit) for site in self.present if site not in self.over])

    def ack_of(self, site):
        """Return the sites that the last ack of a site names."""
        return self.acks[site]

    def wants_ack(self):
        """Return True if the site knows a site to be retiring that its own last ack does not name."""
        return self.number not in self.retiring and not has_all(self.acks[self.number], self.retiring)

    def may_take(self, event, heard):
        """Return True if the site may take an event; `heard` has for each site the vector that was heard of it."""
        dot = dot_of(event)
        if dot[0] not in self.retiring:
            return True
        others = [site for site in self.counting() if site != self.number and site not in self.retiring]
        return any([knows(heard[site], dot) for site in others])

    def as_data(self):
        """Return the data of what the site knows."""
        coming = tuple([(site, self.coming[site]) for site in sorted(self.coming)])
        return (self.number, self.size, self.present, coming, tuple(self.told), self.retiring, self.over,
                tuple(self.acks), tuple(self.absent))

    def fork(self):
        """Return a new object in the same state."""
        return knowing_of(self.as_data())

    def handed(self, other):
        """Return what another site knows that is handed now: all that this one does."""
        twin = self.fork()
        twin.number = other
        twin.told[other] = self.told[self.number]
        return twin


def knowing_of(data):
    """Return what a site knows by its data."""
    number, size, present, coming, told, retiring, over, acks, absent = data
    knowing = Knowing(number, size, ())
    knowing.present = present
    knowing.coming = {site: admit for site, admit in coming}
    knowing.told = list(told)
    knowing.retiring = retiring
    knowing.over = over
    knowing.acks = list(acks)
    knowing.absent = list(absent)
    return knowing


def all_of(sites, others):
    """Return the sites of two tuples as one, ascending, each once."""
    return tuple(sorted(set(sites + others)))


def has_all(sites, wanted):
    """Return True if all wanted sites are among the sites."""
    return all([site in sites for site in wanted])
