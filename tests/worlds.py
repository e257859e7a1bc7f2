"""Worlds for the tests: calls in drawn order, and what the document guarantees behind each of them."""

import random

from partmeet.errors import Behind, MeetError
from partmeet.judge.events import fault_of_events
from partmeet.judge.history import evidence_of, fault_of_history
from partmeet.twin.twin import events_of, fault_of_world, is_at_rest
from partmeet.world.station import site_on
from partmeet.world.world import World
from tests.plans import answers_of
from tests.states import state_of
from tests.writers import KEYS, VALUES, covers

WORDS = ("register", "heads", "counter", "members", "text", "places")

# How often each call is drawn, ahead of what is drawn for each course.
WEIGHTS = (("write", 40), ("read", 15), ("say", 45), ("deliver", 50), ("drop", 5), ("double", 5), ("sync", 5),
           ("forget", 20), ("cut", 3), ("heal", 10), ("crash", 8), ("restart", 30), ("retire", 8), ("admit", 8),
           ("hand", 15), ("calm", 2), ("wipe", 2))


class Course:
    """A world, and calls that are drawn for it."""

    def __init__(self, seed, most=6):
        self.chance = random.Random(seed)
        self.size = self.chance.randint(1, most)
        first = self.chance.sample(range(self.size), self.chance.randint(1, self.size))
        self.world = World(self.size, tuple(sorted(first)))
        self.losses = self.chance.choice([0, 1, 2, 2, 3])
        self.words = []
        for word, often in WEIGHTS:
            self.words += [word] * round(often * self.chance.choice([0.3, 1, 1, 3]))
        # How often each call was done, and how often it was refused with which error.
        self.done = {}
        self.refused = {}
        # What clients had seen, and what sites answered at the vectors that clients were told.
        self.seen = [(0,) * 8 for _ in range(3)]
        self.answers = {}

    # Who is there.

    def in_state(self, *states):
        return [station.number for station in self.world.stations if station.state in states]

    def site(self, number):
        return self.world.stations[number].site

    def sites_up(self):
        return [self.site(number) for number in self.in_state("up")]

    # Calls by chance. Most of them do something, some are refused.

    def call(self):
        word = self.chance.choice(self.words)
        # What there is nothing for is drawn at times, too, but mostly something else is.
        if self.chance.random() < 0.95 and not self.is_there_for(word):
            word = self.chance.choice(["write", "say", "restart"])
        return getattr(self, "some_" + word)()

    def is_there_for(self, word):
        if word in ("deliver", "drop", "double"):
            return self.world.mail.numbers()
        return {"restart": self.in_state("down"), "retire": self.in_state("gone"), "admit": self.in_state("absent"),
                "hand": self.coming()}.get(word, True)

    def some_of(self, *states):
        found = self.in_state(*states)
        if found and self.chance.random() < 0.97:
            return self.chance.choice(found)
        return self.chance.randint(0, self.size)

    def some_client(self, number):
        """Some client, mostly one that the site may answer."""
        found = [client for client in range(3)
                 if number < self.size and covers(self.site(number).vector, self.seen[client])]
        return self.chance.choice(found if found and self.chance.random() < 0.9 else range(4))

    def some_write(self):
        site = self.some_of("up")
        return ("write", self.some_client(site), site, self.some_op(site))

    def some_op(self, number):
        chance = self.chance
        key = chance.choice(KEYS)
        word = chance.choice(["set", "inc", "add", "add", "remove", "insert", "insert", "erase"])
        places = self.site(number).places(key) if number < self.size else []
        if chance.random() < 0.05:
            places = [(chance.randint(0, 7), chance.randint(1, 9))]
        if word == "inc":
            return ("inc", key, chance.randint(-9, 9))
        if word == "insert":
            return ("insert", key, chance.choice([None] + places), chance.choice("abcxyz"))
        if word == "erase" and places:
            return ("erase", key, chance.choice(places))
        return (chance.choice(["set", "add", "remove"]), key, chance.choice(VALUES))

    def some_read(self):
        site = self.some_of("up")
        return ("read", self.some_client(site), site, self.chance.choice(WORDS), self.chance.choice(KEYS))

    def some_say(self):
        site = self.some_of("up")
        others = [other for other in self.in_state("up") if other != site]
        if others and self.chance.random() < 0.9:
            return ("say", site, self.chance.choice(others))
        return ("say", site, self.chance.randint(0, self.size))

    def some_message(self):
        numbers = self.world.mail.numbers()
        if not numbers or self.chance.random() < 0.01:
            return self.chance.randint(0, 50)
        return self.chance.choice([numbers[0], numbers[-1], self.chance.choice(numbers)])

    def some_deliver(self):
        return ("deliver", self.some_message())

    def some_drop(self):
        return ("drop", self.some_message())

    def some_double(self):
        return ("double", self.some_message())

    def some_cut(self):
        return ("cut", self.chance.randrange(self.size), self.chance.randrange(self.size))

    def some_heal(self):
        links = self.world.mail.cut_links()
        return ("heal",) + (self.chance.choice(links) if links else (0, 0))

    def some_sync(self):
        return ("sync", self.some_of("up"))

    def some_forget(self):
        return ("forget", self.some_of("up"))

    def some_crash(self):
        site = self.some_of("up")
        count = self.world.stations[site].disk.unsynced() if site < self.size else 0
        return ("crash", site, self.chance.choice([0, self.chance.randint(0, count), count, count + 1]))

    def some_restart(self):
        return ("restart", self.some_of("down"))

    def some_wipe(self):
        if len(self.in_state("gone")) >= self.losses or len(self.in_state("up", "down")) < 2:
            return self.some_say()
        return ("wipe", self.some_of("up", "down", self.chance.choice(["up", "absent"])))

    def some_retire(self):
        return ("retire", self.some_of("up"), self.some_of("gone"))

    def some_admit(self):
        return ("admit", self.some_of("up"), self.some_of("absent"))

    def some_hand(self):
        site = self.some_of("up")
        ready = [new for new in self.in_state("absent") if site < self.size and self.site(site).may_hand(new)]
        return ("hand", site, self.chance.choice(ready) if ready else self.some_of("absent"))

    def some_calm(self):
        return ("calm", self.chance.randint(0, 3))

    def step(self):
        """Do some call; see that all is as the document guarantees behind it."""
        self.perform(self.call())

    def perform(self, call):
        before = state_of(self.world) if self.chance.random() < 0.2 else None
        try:
            self.world.perform(call)
        except MeetError as error:
            word = (call[0], error.__class__)
            self.refused[word] = self.refused.get(word, 0) + 1
            assert error.__class__ is not Behind or not covers(self.site(call[2]).vector, self.seen[call[1]])
            assert before is None or state_of(self.world) == before, call
            return
        self.done[call[0]] = self.done.get(call[0], 0) + 1
        if call[0] in ("read", "write"):
            self.look_at_row(call)
        self.look()

    # What is looked at.

    def look_at_row(self, call):
        """Points [9], [62], [65] and [66]: a client is told of nothing but what has all in its past that it saw."""
        client, site, _, _, _, vector = self.world.history[-1]
        assert (client, site) == call[1:3]
        assert vector == self.site(site).vector and covers(vector, self.seen[client])
        self.seen[client] = tuple(map(max, vector, self.seen[client]))
        assert self.world.clients[client].token == self.seen[client]
        assert self.world.stations[site].disk.unsynced() == 0
        # What a client was told of is lost by no crash, so this vector has the same events for ever.
        assert self.answers.setdefault(vector, answers_of(self.site(site))) == answers_of(self.site(site))

    def look(self):
        """Points [8], [10] and [76] to [78], for all sites that are up."""
        world = self.world
        assert fault_of_world(world) is None, fault_of_world(world)
        told = {}
        for site in self.sites_up():
            answers = answers_of(site)
            assert told.setdefault(site.vector, answers) == answers
            assert self.answers.get(site.vector, answers) == answers
            events = events_of(world, site.vector)
            assert len(events) == sum(site.vector) and all(covers(site.vector, e[2]) for e in events)
            assert all(covers(e[2], site.base.vector) for e in site.held + site.waiting)
            for station in world.stations:
                if station.state in ("up", "down") and station.number not in site.knowing.over:
                    assert covers(vector_of(station), site.base.vector), (site.number, station.number)

    def look_at_evidence(self):
        """Points [90] and [93], and that what sites know are events without a fault."""
        events, history = evidence_of(self.world)
        assert fault_of_history(events, history) is None
        for site in self.sites_up():
            assert fault_of_events(events_of(self.world, site.vector)) is None

    # The end.

    def make_kind(self):
        """Let the conditions of point [80] be there: links, sites that are up, lost ones that somebody knows to be."""
        if not self.in_state("up", "down"):
            return False
        for link in self.world.mail.cut_links():
            self.perform(("heal",) + link)
        for number in self.in_state("down"):
            self.perform(("restart", number))
        self.retire_lost()
        return True

    def retire_lost(self):
        for lost in self.in_state("gone"):
            for number in self.chance.sample(self.in_state("up"), self.chance.randint(1, len(self.in_state("up")))):
                self.perform(("retire", number, lost))

    def coming(self):
        """The absent sites that are coming for one that is up."""
        return [new for new in self.in_state("absent")
                if any(site.knowing.admit_of(new) is not None for site in self.sites_up())]

    def go_on_kindly(self):
        """Let the told number of kind rounds go by."""
        rounds = 10 + len(self.world.written)
        self.world.calm(rounds % 200)
        for _ in range(rounds // 200):
            self.world.calm(200)
        self.look()

    def see_that_all_may_be_handed(self):
        """Point [80]."""
        for new in self.coming():
            for site in self.sites_up():
                assert new in site.knowing.retiring or site.may_hand(new), (site.number, new)

    def end(self):
        """Let the world turn kind; see points [11], [79] and [80]. Return whether somebody was there."""
        if not self.make_kind():
            return False
        self.go_on_kindly()
        self.see_that_all_may_be_handed()
        # What came late may tell of one more site that was admitted.
        while self.coming():
            for new in self.coming():
                self.perform(("hand", self.chance.choice(self.in_state("up")), new))
            self.go_on_kindly()
        assert is_at_rest(self.world)
        state = [site.image() for site in self.sites_up()]
        for _ in range(3):
            self.world.calm(1)
            assert is_at_rest(self.world)
        assert [site.image() for site in self.sites_up()] == state
        self.look()
        self.look_at_evidence()
        return True


def vector_of(station):
    """The vector of a site that is up; for one that is down that with which it comes back."""
    if station.state == "up":
        return station.site.vector
    return site_on(station.disk.payloads(), station.number, station.size, station.first).vector
