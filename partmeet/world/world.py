"""Worlds: what happens to sites, and what clients are told (points [63] to [72])."""

from partmeet.clients.client import Client
from partmeet.data.events import dot_of, is_client_op
from partmeet.data.keys import is_key, is_whole
from partmeet.data.vectors import SITES
from partmeet.errors import Absent, Behind, MeetError, NoClient, NoSite, NotOp, OutOfRange, SiteGone, SiteUp, StillThere
from partmeet.knowing.shapes import is_row_of_plan, is_site_of_plan
from partmeet.world.mail import Mail
from partmeet.world.refusals import absent_at, begun_at, check_call, running_at, station_at
from partmeet.world.station import Station

CLIENTS = 3

MOST_COUNT = 1000000
MOST_ROUNDS = 200

# The words that a site can be asked, in their order.
WORDS = ("register", "heads", "counter", "members", "text", "places")


class World:
    """Stations, clients, mail; all events that were written, and all that clients were told."""

    def __init__(self, size, first):
        """Make a new world. Raises OutOfRange for a size or first sites that make no plan."""
        if not is_whole(size) or not 1 <= size <= SITES:
            raise OutOfRange("there is no world of this size")
        if not is_row_of_plan(first, size) or len(first) == 0:
            raise OutOfRange("these cannot be the first sites")
        self.stations = [Station(number, size, first) for number in range(size)]
        self.clients = [Client() for _ in range(CLIENTS)]
        self.mail = Mail()
        self.written = {}
        self.history = []

    def write(self, client, site, op):
        """Let a client write at a site; return the dot."""
        station = self._station_for(client, site)
        if not is_client_op(op):
            raise NotOp("this is no operation of clients")
        self._refuse_if_behind(client, station)
        dot = station.site.write(op)
        self._keep(station)
        self._answer(client, station, "write", op, dot)
        return dot

    def read(self, client, site, word, key):
        """Let a client ask a site; return the answer."""
        station = self._station_for(client, site)
        if word not in WORDS or not is_key(key):
            raise OutOfRange("there is no such question")
        self._refuse_if_behind(client, station)
        answer = answer_at(station.site, word, key)
        self._answer(client, station, "read", (word, key), answer)
        return answer

    def _station_for(self, client, site):
        """Return the station that a client asks. Raises NoClient, and what `running_at` raises."""
        if not is_whole(client) or not 0 <= client < CLIENTS:
            raise NoClient("there is no such client")
        return running_at(self.stations, site)

    def _refuse_if_behind(self, client, station):
        """Raise Behind if a site does not know all that a client has seen."""
        if not self.clients[client].may_ask(station.site.vector):
            raise Behind("the site does not know what the client has seen")

    def _keep(self, station):
        """Put on the disk what is fresh at a site, and note what it wrote."""
        for event in station.keep():
            self.written[dot_of(event)] = event

    def _answer(self, client, station, word, asked, answer):
        """Tell a client something; the disk is synced before."""
        station.disk.sync()
        vector = station.site.vector
        self.clients[client].saw(vector)
        self.history.append((client, station.number, word, asked, frozen(answer), vector))

    def say(self, sender, receiver):
        """Let a site say its news to another one; return the number of the message."""
        station = running_at(self.stations, sender)
        if receiver == sender or not is_site_of_plan(receiver, len(self.stations)):
            raise OutOfRange("a site says nothing to such a one")
        if self.stations[receiver].state == "absent":
            raise Absent("the receiver has not begun")
        station.disk.sync()
        return self.mail.put(sender, receiver, station.site.news_for(receiver))

    def deliver(self, number):
        """Let the receiver of a message hear it."""
        self.mail.check_link(number)
        sender, receiver, news = self.mail.look(number)
        station = running_at(self.stations, receiver)
        self.mail.lose(number)
        station.site.hear(sender, news)
        self._keep(station)

    def drop(self, number):
        """Let a message be lost."""
        self.mail.lose(number)

    def double(self, number):
        """Send a message like another one; return its number."""
        return self.mail.double(number)

    def cut(self, sender, receiver):
        """Cut a link."""
        self._check_ends(sender, receiver)
        self.mail.cut(sender, receiver)

    def heal(self, sender, receiver):
        """Let a link be there."""
        self._check_ends(sender, receiver)
        self.mail.heal(sender, receiver)

    def _check_ends(self, sender, receiver):
        """Raise NoSite if one of the two is no site of the plan."""
        station_at(self.stations, sender)
        station_at(self.stations, receiver)

    def sync(self, site):
        """Sync the disk of a site."""
        running_at(self.stations, site).disk.sync()

    def forget(self, site):
        """Let a site forget; return the number of the events that were folded."""
        return running_at(self.stations, site).forget()

    def crash(self, site, count):
        """Let a site crash; so many octets stay of those that are not synced."""
        station = running_at(self.stations, site)
        if not 0 <= count <= MOST_COUNT:
            raise OutOfRange("a crash with such a count cannot be")
        station.crash(count)

    def restart(self, site):
        """Let a site come up again."""
        station = begun_at(self.stations, site)
        if station.state == "up":
            raise SiteUp("the site is up")
        station.restart()

    def wipe(self, site):
        """Let a site be lost for good."""
        # One that has not begun can be lost, too.
        station = station_at(self.stations, site)
        if station.state == "gone":
            raise SiteGone("the site is lost for good already")
        station.wipe()

    def retire(self, site, other):
        """Let a site retire one that is gone; return the dot, or None if nothing was written."""
        station = running_at(self.stations, site)
        if other == site or not is_site_of_plan(other, len(self.stations)):
            raise NoSite("there is no such other site")
        if self.stations[other].state != "gone":
            raise StillThere("the other site is not lost for good")
        dot = station.site.retire(other, self._absent_sites())
        self._keep(station)
        station.disk.sync()
        return dot

    def _absent_sites(self):
        """Return the sites that are absent, ascending."""
        return tuple([station.number for station in self.stations if station.state == "absent"])

    def admit(self, site, new):
        """Let a site admit an absent one; return the dot."""
        station = running_at(self.stations, site)
        absent_at(self.stations, new)
        dot = station.site.admit(new)
        self._keep(station)
        station.disk.sync()
        return dot

    def hand(self, site, new):
        """Let a site hand an absent one, which begins."""
        station = running_at(self.stations, site)
        beginner = absent_at(self.stations, new)
        image = station.site.hand(new)
        self._keep(station)
        station.disk.sync()
        beginner.begin(image)

    def calm(self, rounds):
        """Let so many kind rounds go by."""
        if not 0 <= rounds <= MOST_ROUNDS:
            raise OutOfRange("so many rounds cannot go by at once")
        for _ in range(rounds):
            self._kind_round()

    def _kind_round(self):
        """Let all that are up say their news, deliver what can be delivered, and let all forget."""
        up = [station.number for station in self.stations if station.state == "up"]
        for sender in up:
            for receiver in up:
                if receiver != sender:
                    self.say(sender, receiver)
        on_the_way = self.mail.numbers()
        for number in on_the_way:
            self._deliver_or_lose(number)
        for site in up:
            self.forget(site)

    def _deliver_or_lose(self, number):
        """Deliver a message; lose it if that is refused."""
        try:
            self.deliver(number)
        except MeetError:
            self.mail.lose(number)

    def perform(self, call):
        """Do a call that is told by a tuple; return what it returns."""
        check_call(call)
        calls = {
            "write": self.write, "read": self.read, "say": self.say, "deliver": self.deliver, "drop": self.drop,
            "double": self.double, "cut": self.cut, "heal": self.heal, "sync": self.sync, "forget": self.forget,
            "crash": self.crash, "restart": self.restart, "wipe": self.wipe, "retire": self.retire,
            "admit": self.admit, "hand": self.hand, "calm": self.calm,
        }
        act = calls[call[0]]
        passed = call[1:]
        return act(*passed)


def answer_at(site, word, key):
    """Return the answer of a site to one of the words that it can be asked."""
    if word == "register":
        return site.latest(key)
    if word == "heads":
        return site.heads(key)
    if word == "counter":
        return site.counter(key)
    if word == "members":
        return site.members(key)
    if word == "text":
        return site.text(key)
    return site.places(key)


def frozen(answer):
    """Return the tuple of the items of a list; anything else as it is."""
    return tuple(answer) if isinstance(answer, list) else answer
