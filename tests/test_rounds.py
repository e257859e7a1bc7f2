"""Point [71]: kind rounds."""

import unittest

from partmeet.errors import OutOfRange
from partmeet.packing.lines import unpack
from partmeet.world.world import World
from tests.sites import vector
from tests.states import WorldTest, state_of, tell, unsynced, world_of

OP = ("set", "k", 1)


class Watched(World):
    """A world that tells what happens in its rounds."""

    def __init__(self, size, first):
        World.__init__(self, size, first)
        self.log = []
        for station in self.stations:
            self.watch(station)

    def watch(self, station):
        hear, forget, news_for = station.site.hear, station.site.forget, station.site.news_for

        def heard(sender, news):
            self.log.append(("hear", station.number, sender, news))
            hear(sender, news)

        def forgot():
            self.log.append(("forget", station.number))
            return forget()

        def said(receiver):
            self.log.append(("say", station.number, receiver))
            return news_for(receiver)

        station.site.hear, station.site.forget, station.site.news_for = heard, forgot, said


def by_hand(world, rounds):
    """Kind rounds as point [71] tells them, call by call."""
    for _ in range(rounds):
        up = [station.number for station in world.stations if station.state == "up"]
        for sender in up:
            for receiver in up:
                if sender != receiver:
                    world.say(sender, receiver)
        for number in world.mail.numbers():
            sender, receiver, _ = world.mail.look(number)
            if (sender, receiver) in world.mail.cut_links() or world.stations[receiver].state != "up":
                world.drop(number)
            else:
                world.deliver(number)
        for number in up:
            world.forget(number)


class Rounds(WorldTest):
    def test_the_order(self):
        world = Watched(5, (0, 1, 2, 3))
        world.crash(1, 0)
        world.write(0, 0, OP)
        world.write(1, 3, OP)
        world.log.clear()
        self.assertIsNone(world.calm(1))
        self.assertEqual([row[:3] for row in world.log],
                         [("say", sender, receiver) for sender, receiver in ((0, 2), (0, 3), (2, 0), (2, 3), (3, 0),
                                                                            (3, 2))]
                         + [("hear", receiver, sender) for sender, receiver in ((0, 2), (0, 3), (2, 0), (2, 3), (3, 0),
                                                                               (3, 2))]
                         + [("forget", 0), ("forget", 2), ("forget", 3)])

    def test_all_is_said_ahead_of_what_is_heard(self):
        world = Watched(3, (0, 1, 2))
        world.write(0, 0, OP)
        world.calm(1)
        told = {row[1:3]: row[3][1] for row in world.log if row[0] == "hear"}
        self.assertEqual(told, {(1, 0): vector(1), (2, 0): vector(1), (0, 1): vector(), (2, 1): vector(),
                                (0, 2): vector(), (1, 2): vector()})

    def test_messages_on_their_way_are_taken_by_their_numbers(self):
        world = Watched(3, (0, 1, 2))
        world.say(2, 1)
        world.write(0, 0, OP)
        world.say(0, 1)
        world.double(0)
        world.log.clear()
        world.calm(1)
        self.assertEqual([row[1:3] for row in world.log if row[0] == "hear"],
                         [(1, 2), (1, 0), (1, 2), (1, 0), (2, 0), (0, 1), (2, 1), (0, 2), (1, 2)])
        self.assertEqual(world.mail.numbers(), [])
        self.assertEqual(world.say(0, 1), 9)

    def test_refused_messages_are_lost(self):
        world = world_of(4)
        world.write(0, 0, OP)
        for receiver in (1, 2, 3):
            world.say(0, receiver)
        world.cut(0, 1)
        world.crash(2, 0)
        world.wipe(3)
        world.calm(1)
        self.assertEqual(world.mail.numbers(), [])
        self.assertEqual((world.stations[1].site.vector, world.mail.cut_links()), (vector(), [(0, 1)]))
        self.assertEqual(world.say(0, 1), 5)
        world.restart(2)
        self.assertEqual(world.stations[2].site.vector, vector())

    def test_a_cut_link_is_one_way(self):
        world = world_of(2)
        world.write(0, 0, OP)
        world.write(1, 1, OP)
        world.cut(0, 1)
        world.calm(5)
        self.assertEqual([station.site.vector for station in world.stations], [vector(1, 1), vector(0, 1)])
        world.heal(0, 1)
        world.calm(2)
        self.assertEqual([station.site.held for station in world.stations], [[], []])

    def test_what_is_synced(self):
        """Who says news syncs ahead of that; what is heard and forgotten in the round itself is not."""
        world = world_of(2)
        world.write(0, 0, OP)
        world.calm(1)
        self.assertEqual(unsynced(world, 0), 0)
        self.assertGreater(unsynced(world, 1), 0)
        self.assertEqual([unpack(payload)[0] for payload in world.stations[1].disk.payloads()], ["image"])
        world.calm(1)
        self.assertEqual(unsynced(world, 1), 0)
        self.assertGreater(unsynced(world, 0), 0)
        world.calm(1)
        self.assertEqual((unsynced(world, 0), unsynced(world, 1)), (0, 0))

    def test_rounds_are_the_calls_one_by_one(self):
        worlds = []
        for _ in range(2):
            world = world_of(5, (0, 1, 2, 3))
            world.admit(0, 4)
            for at in range(40):
                site = (at * at) % 4
                if world.clients[at % 3].may_ask(world.stations[site].site.vector):
                    world.write(at % 3, site, ("insert", "t", None, "abc"[at % 3]))
                else:
                    tell(world, (site + 1) % 4, site)
            world.say(1, 2)
            world.cut(3, 1)
            world.crash(2, 9)
            worlds.append(world)
        one, other = worlds
        one.calm(1)
        by_hand(other, 1)
        self.assertEqual(state_of(one), state_of(other))
        for world in worlds:
            world.heal(3, 1)
            world.restart(2)
        one.calm(6)
        by_hand(other, 6)
        self.assertEqual(state_of(one), state_of(other))
        self.assertEqual(len({station.site.vector for station in one.stations[:4]}), 1)
        self.assertEqual(sum(one.stations[0].site.vector), len(one.written))

    def test_how_many_rounds(self):
        world = world_of(2)
        world.write(0, 0, OP)
        before = state_of(world)
        self.assertIsNone(world.calm(0))
        self.assertEqual(state_of(world), before)
        self.assertIsNone(world.calm(200))
        self.assertEqual(world.say(0, 1), 400)
        for rounds in (201, 202, 10 ** 9):
            self.assertRefused(OutOfRange, world, "calm", rounds)
        self.assertRaises(OutOfRange, world.calm, -1)

    def test_nobody_or_one_alone(self):
        world = world_of(1)
        world.write(0, 0, OP)
        world.calm(1)
        self.assertEqual((world.stations[0].site.held, world.mail.numbers()), ([], []))
        world.crash(0, 0)
        before = state_of(world)
        world.calm(3)
        self.assertEqual(state_of(world), before)


if __name__ == "__main__":
    unittest.main()
