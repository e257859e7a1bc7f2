"""Plans for the tests: sites that write, hear, forget, come, are lost and come back, with news that go astray.

The conditions of point [50] are kept: a site that comes back knows what it had told, each site begins once, no lost
site says anything more, and who retires one names as absent only sites that have not begun.
"""

import random

from partmeet.meaning.texts import places_of, text_of
from partmeet.meaning.values import counter_of, heads_of, members_of, register_of
from partmeet.replica.replica import Site, site_of
from tests.writers import KEYS, VALUES, covers, has


class Plan:
    def __init__(self, seed, size, first, lossy=True):
        self.chance = random.Random(seed)
        self.size = size
        self.lossy = lossy
        self.sites = {number: Site(number, size, first) for number in first}
        self.gone = []
        self.mail = []
        # All events that were ever written, by dots; what a crash took back is written anew.
        self.events = {}
        # For each site its last image, the events behind it, and how many of these no crash takes.
        self.disks = {number: (None, [], 0) for number in first}
        self.first = first
        self.counts = {}

    def absent(self):
        return [number for number in range(self.size) if number not in self.sites and number not in self.gone]

    def unbegun(self):
        """The sites that have never begun, as far as those that are lost for good are not among them."""
        return tuple(self.absent())

    def count(self, word):
        self.counts[word] = self.counts.get(word, 0) + 1

    # What a site does. Behind each step its disk takes what is fresh.

    def keep(self, number):
        image, log, synced = self.disks[number]
        fresh = self.sites[number].fresh()
        for e in fresh:
            if e[0] == number:
                self.events[e[:2]] = e
        self.disks[number] = (image, log + fresh, synced)
        self.look_at(number)

    def sync(self, number):
        image, log, synced = self.disks[number]
        self.disks[number] = (image, log, len(log))

    def write(self, number):
        self.sites[number].write(self.some_op(self.sites[number]))
        self.keep(number)

    def some_op(self, site):
        chance = self.chance
        key = chance.choice(KEYS)
        word = chance.choice(["set", "inc", "add", "add", "remove", "insert", "insert", "erase"])
        places = site.places(key)
        if word == "inc":
            return ("inc", key, chance.randint(-9, 9))
        if word == "insert":
            return ("insert", key, chance.choice([None] + places), chance.choice("abcxyz"))
        if word == "erase" and places:
            return ("erase", key, chance.choice(places))
        return (chance.choice(["set", "add", "remove"]), key, chance.choice(VALUES))

    def say(self, number, other):
        self.sync(number)
        self.mail.append((number, other, self.sites[number].news_for(other)))

    def deliver(self, at):
        sender, receiver, news = self.mail.pop(at)
        if receiver in self.sites:
            self.sites[receiver].hear(sender, news)
            self.keep(receiver)

    def forget(self, number):
        site = self.sites[number]
        before = answers_of(site)
        many = site.forget()
        if many:
            self.sync(number)
            self.disks[number] = (site.image(), [], 0)
            self.count("forgot")
        assert answers_of(site) == before
        self.look_at(number)
        return many

    def admit(self, number, new):
        site = self.sites[number]
        if new not in site.knowing.counting() and new not in site.knowing.retiring:
            site.admit(new)
            self.keep(number)
            self.sync(number)
            self.count("admitted")

    def hand(self, number, new):
        site = self.sites[number]
        if site.may_hand(new):
            image = site.hand(new)
            self.keep(number)
            self.sync(number)
            self.sites[new] = site_of(image)
            assert self.sites[new].image() == image
            self.disks[new] = (image, [], 0)
            self.look_at(new)
            self.count("handed")

    def lose(self, number):
        self.sites.pop(number, None)
        self.disks.pop(number, None)
        self.gone.append(number)
        self.count("lost")

    def retire(self, number, other):
        if self.sites[number].retire(other, self.unbegun()) is not None:
            self.count("retired")
        self.keep(number)
        self.sync(number)

    def crash(self, number):
        image, log, synced = self.disks[number]
        log = log[:self.chance.randint(synced, len(log))]
        site = Site(number, self.size, self.first) if image is None else site_of(image)
        for e in log:
            site.take(e)
        assert site.fresh() == []
        self.sites[number] = site
        self.disks[number] = (image, log, len(log))
        self.look_at(number)
        self.count("crashed")

    # What is looked at.

    def known(self, vector):
        return [e for e in self.events.values() if has(vector, e[:2])]

    def look_at(self, number):
        """See that a site answers as its events mean, and that it may hold what it holds."""
        site = self.sites[number]
        assert answers_of(site) == meant(self.known(site.vector)), number
        assert site.vector == site.knowing.told[number] == site.heard(number)
        cut = site.cut()
        assert covers(cut, site.base.vector) and covers(site.stable(), cut) and covers(site.vector, site.stable())
        for e in site.held:
            assert covers(e[2], site.base.vector) and not has(site.base.vector, e[:2])
            assert has(cut, e[:2]) or covers(e[2], cut)
        for e in site.waiting:
            assert not has(site.vector, e[:2]) and e[0] not in site.knowing.over
        for other in self.sites.values():
            assert covers(other.vector, site.base.vector), (number, other.number)
            assert covers(site.vector, other.base.vector), (number, other.number)

    # Steps by chance.

    def step(self):
        chance = self.chance
        word = chance.choice(["write"] * 4 + ["say"] * 6 + ["deliver"] * 6 + ["forget"] * 2 + ["other"])
        number = chance.choice(sorted(self.sites))
        if word == "write":
            self.write(number)
        if word == "say":
            others = [other for other in range(self.size) if other != number and other not in self.absent()]
            if others:
                self.say(number, chance.choice(others))
        if word == "deliver" and self.mail:
            self.deliver_somehow()
        if word == "forget":
            self.forget(number)
        if word == "other":
            self.other_step(number)

    def deliver_somehow(self):
        chance = self.chance
        at = chance.randrange(len(self.mail)) if chance.random() < 0.5 else 0
        if self.lossy and chance.random() < 0.2:
            self.mail.pop(at)
        elif self.lossy and chance.random() < 0.2:
            self.mail.append(self.mail[at])
        else:
            self.deliver(at)

    def other_step(self, number):
        chance = self.chance
        word = chance.choice(["admit", "admit", "hand", "hand", "crash", "lose", "retire", "retire"])
        if word == "admit" and self.absent():
            self.admit(number, chance.choice(self.absent()))
        if word == "hand" and self.absent():
            self.hand(number, chance.choice(self.absent()))
        if word == "crash":
            self.crash(number)
        if word == "lose" and len(self.sites) > 1 and len(self.gone) < 2:
            self.lose(chance.choice(sorted(self.sites) + self.absent()))
        if word == "retire" and self.gone:
            self.retire(number, chance.choice(self.gone))

    # The end: all that is said arrives.

    def round(self):
        for number in sorted(self.sites):
            for other in sorted(self.sites):
                if other != number:
                    self.say(number, other)
        while self.mail:
            self.deliver(0)
        many = 0
        for number in sorted(self.sites):
            many += self.forget(number)
        return many

    def settle(self, rounds):
        """Let those come that were admitted, retire those that are lost, and let news go round."""
        for other in self.gone:
            self.retire(self.chance.choice(sorted(self.sites)), other)
        for _ in range(rounds):
            self.round()
            for new in self.absent():
                for number in sorted(self.sites):
                    if new in self.absent():
                        self.hand(number, new)
        for _ in range(rounds):
            self.round()

    def at_rest(self):
        sites = list(self.sites.values())
        return all(site.vector == sites[0].vector and site.base.as_data() == sites[0].base.as_data()
                   and site.held == [] and site.waiting == [] for site in sites)


def answers_of(site):
    return [[answer(key) for answer in (site.heads, site.latest, site.counter, site.members, site.places, site.text)]
            for key in KEYS]


def meant(events):
    return [[answer(events, key) for answer in (heads_of, register_of, counter_of, members_of, places_of, text_of)]
            for key in KEYS]
