"""Stations: a site, its disk, and whether it is up (points [63] to [68])."""

from partmeet.data.events import dot_of
from partmeet.disk.disk import Disk
from partmeet.packing.lines import pack, unpack
from partmeet.replica.replica import Site, site_of

IMAGE_WORD = "image"
EVENT_WORD = "event"


class Station:
    """A site with its disk, in one of the states "up", "absent", "down" and "gone"."""

    def __init__(self, number, size, first):
        """Make a new station; it is up if its site is one of the first ones."""
        self.number = number
        self.size = size
        self.first = first
        self.state = "up" if number in first else "absent"
        self.site = Site(number, size, first)
        self.disk = Disk()

    def keep(self):
        """Append to the disk what is fresh at the site; return the events of it that the site itself wrote."""
        fresh = self.site.fresh()
        for event in fresh:
            self.disk.append(pack((EVENT_WORD, event)))
        return [event for event in fresh if dot_of(event)[0] == self.number]

    def forget(self):
        """Let the site forget; return the number of the events that were folded."""
        many = self.site.forget()
        if many > 0:
            self.disk.renew(pack((IMAGE_WORD, self.site.image())))
        return many

    def begin(self, image):
        """Begin with what another site hands."""
        self.site = site_of(image)
        self.disk.renew(pack((IMAGE_WORD, image)))
        self.disk.sync()
        self.state = "up"

    def crash(self, count):
        """Lose the site, and of the disk what is not synced, but for so many octets."""
        self.disk.crash(count)
        self._leave("down")

    def restart(self):
        """Come up again with what the disk tells."""
        self.site = site_on(self.disk.payloads(), self.number, self.size, self.first)
        self.state = "up"

    def wipe(self):
        """Be lost for good."""
        self.disk = Disk()
        self._leave("gone")

    def _leave(self, state):
        """Go into a state in which there is no site but a new one."""
        self.site = Site(self.number, self.size, self.first)
        self.state = state


def site_on(payloads, number, size, first):
    """Return the site that the payloads of a disk tell."""
    told = [unpack(payload) for payload in payloads]
    site = Site(number, size, first)
    if len(told) > 0 and told[0][0] == IMAGE_WORD:
        site = site_of(told[0][1])
        told = told[1:]
    for _, event in told:
        site.take(event)
    return site
