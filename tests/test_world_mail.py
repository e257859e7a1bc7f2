"""Points [66], [69] and [70]: what sites say, and how it comes to others or does not."""

import unittest

from partmeet.errors import Absent, LinkCut, NoMessage, NoSite, OutOfRange, SiteDown, SiteGone
from tests.sites import vector
from tests.states import WorldTest, state_of, tell, unsynced, world_of

OP = ("set", "k", 1)


def mixed():
    """A world of five sites: 0 and 1 are up, 2 is down, 3 is gone, 4 is absent. Sites 0, 2 and 3 wrote something."""
    world = world_of(5, (0, 1, 2, 3))
    for client, site in ((0, 0), (1, 2), (2, 3)):
        world.write(client, site, OP)
    world.crash(2, 0)
    world.wipe(3)
    return world


class Saying(WorldTest):
    def test_what_it_does(self):
        world = world_of(3)
        world.write(0, 0, OP)
        tell(world, 0, 1)
        self.assertGreater(unsynced(world, 1), 0)
        self.assertEqual(world.say(1, 2), 1)
        self.assertEqual(unsynced(world, 1), 0)
        event = (0, 1, vector(), 1, OP)
        self.assertEqual(world.mail.look(1), (1, 2, ("news", vector(1), (event,))))
        self.assertEqual(world.say(1, 0), 2)
        # Site 1 knows that site 0 has its own event.
        self.assertEqual(world.mail.look(2), (1, 0, ("news", vector(1), ())))
        self.assertEqual((world.mail.numbers(), world.stations[2].site.vector), ([1, 2], vector()))

    def test_the_news_are_those_of_that_moment(self):
        world = world_of(2)
        world.say(0, 1)
        world.write(0, 0, OP)
        world.deliver(0)
        self.assertEqual(world.stations[1].site.vector, vector())

    def test_at_most_20_events(self):
        world = world_of(2)
        for _ in range(25):
            world.write(0, 0, OP)
        self.assertEqual(len(world.mail.look(world.say(0, 1))[2][2]), 20)

    def test_to_what_is_down_or_gone(self):
        world = mixed()
        for receiver in (2, 3):
            number = world.say(0, receiver)
            self.assertEqual(world.mail.look(number)[:2], (0, receiver))

    def test_over_a_cut_link(self):
        world = mixed()
        world.cut(0, 1)
        self.assertEqual(world.mail.look(world.say(0, 1))[:2], (0, 1))

    def test_the_sender_is_not_running(self):
        world = mixed()
        for sender, error in ((5, NoSite), (3, SiteGone), (4, Absent), (2, SiteDown)):
            self.assertRefused(error, world, "say", sender, 0)
            # Ahead of what is wrong with the receiver.
            for receiver in (sender, 9, 4):
                self.assertRefused(error, world, "say", sender, receiver)

    def test_no_such_receiver(self):
        world = mixed()
        tell(world, 0, 1)
        for receiver in (1, 5, 100):
            self.assertRefused(OutOfRange, world, "say", 1, receiver)
        with self.assertRaises(OutOfRange):
            world.say(1, -1)
        self.assertRefused(Absent, world, "say", 1, 4)


class Delivering(WorldTest):
    def test_what_it_does(self):
        world = world_of(2)
        world.write(0, 0, OP)
        self.assertIsNone(world.deliver(world.say(0, 1)))
        site = world.stations[1].site
        self.assertEqual((site.vector, site.latest("k"), site.heard(0)), (vector(1), [1], vector(1)))
        self.assertEqual(world.mail.numbers(), [])
        # It is on the disk, and not synced.
        self.assertEqual(len(world.stations[1].disk.payloads()), 1)
        self.assertEqual(unsynced(world, 1), len(world.stations[1].disk.images()[0]))
        # What clients saw is no matter of messages.
        self.assertEqual([client.token for client in world.clients], [vector(1), vector(), vector()])

    def test_an_ack_that_it_makes_is_noted(self):
        world = world_of(3)
        world.wipe(2)
        world.retire(0, 2)
        tell(world, 0, 1)
        self.assertEqual(world.written[(1, 1)], (1, 1, vector(2), 3, ("ack", (2,))))
        self.assertEqual(len(world.stations[1].disk.payloads()), 3)

    def test_no_message(self):
        world = mixed()
        world.say(0, 1)
        world.say(0, 2)
        world.drop(0)
        for number in (0, 2, 99):
            self.assertRefused(NoMessage, world, "deliver", number)
            self.assertRefused(NoMessage, world, "drop", number)
            self.assertRefused(NoMessage, world, "double", number)
        world.restart(2)
        world.deliver(1)
        self.assertRefused(NoMessage, world, "deliver", 1)

    def test_its_link_is_cut(self):
        world = mixed()
        world.say(0, 1)
        world.cut(0, 1)
        self.assertRefused(LinkCut, world, "deliver", 0)
        world.heal(0, 1)
        world.cut(1, 0)
        world.deliver(0)
        self.assertEqual(world.stations[1].site.latest("k"), [1])

    def test_link_cut_ahead_of_what_the_receiver_is(self):
        world = mixed()
        for receiver, error in ((2, SiteDown), (3, SiteGone)):
            number = world.say(0, receiver)
            self.assertRefused(error, world, "deliver", number)
            world.cut(0, receiver)
            self.assertRefused(LinkCut, world, "deliver", number)
            self.assertIn(number, world.mail.numbers())

    def test_to_an_absent_site(self):
        world = mixed()
        # Nothing is said to an absent site, so this one is put there.
        number = world.mail.put(0, 4, ("news", vector(), ()))
        self.assertRefused(Absent, world, "deliver", number)

    def test_the_sender_does_not_matter(self):
        world = world_of(3)
        world.write(0, 0, OP)
        world.write(1, 1, ("inc", "k", 5))
        world.say(0, 2)
        world.say(1, 2)
        world.crash(0, 0)
        world.wipe(1)
        world.deliver(0)
        world.deliver(1)
        self.assertEqual((world.stations[2].site.latest("k"), world.stations[2].site.counter("k")), ([1], 5))

    def test_the_receiver_crashes_meanwhile_and_comes_back(self):
        world = world_of(2)
        world.write(0, 0, OP)
        world.say(0, 1)
        world.crash(1, 0)
        self.assertRefused(SiteDown, world, "deliver", 0)
        world.restart(1)
        world.deliver(0)
        self.assertEqual(world.stations[1].site.latest("k"), [1])

    def test_the_receiver_is_wiped_meanwhile(self):
        world = world_of(2)
        world.say(0, 1)
        world.wipe(1)
        self.assertRefused(SiteGone, world, "deliver", 0)
        self.assertEqual(world.mail.numbers(), [0])
        self.assertIsNone(world.drop(0))
        self.assertEqual(world.mail.numbers(), [])

    def test_late_ones(self):
        world = world_of(2)
        numbers = []
        for value in range(3):
            world.write(0, 0, ("set", "k", value))
            numbers.append(world.say(0, 1))
        world.deliver(numbers[2])
        world.deliver(numbers[0])
        world.deliver(numbers[1])
        self.assertEqual((world.stations[1].site.latest("k"), world.stations[1].site.vector), ([2], vector(3)))
        self.assertEqual(len(world.stations[1].disk.payloads()), 3)


class DroppingAndDoubling(WorldTest):
    def test_drop(self):
        world = world_of(2)
        world.write(0, 0, OP)
        world.say(0, 1)
        self.assertIsNone(world.drop(0))
        self.assertEqual((world.mail.numbers(), world.stations[1].site.vector), ([], vector()))
        self.assertEqual(world.say(0, 1), 1)

    def test_double(self):
        world = world_of(2)
        world.write(0, 0, OP)
        world.say(0, 1)
        self.assertEqual(world.double(0), 1)
        self.assertEqual(world.mail.look(0), world.mail.look(1))
        world.deliver(1)
        before = world.stations[1].site.image(), world.stations[1].disk.images()
        world.deliver(0)
        self.assertEqual((world.stations[1].site.image(), world.stations[1].disk.images()), before)

    def test_of_messages_to_what_is_not_up(self):
        world = mixed()
        for receiver in (2, 3):
            number = world.say(0, receiver)
            world.cut(0, receiver)
            self.assertEqual(world.mail.look(world.double(number))[1], receiver)
            self.assertIsNone(world.drop(number))

    def test_they_do_nothing_else(self):
        world = mixed()
        tell(world, 0, 1)
        world.say(1, 0)
        before = state_of(world)
        world.drop(world.double(1))
        self.assertEqual(state_of(world)[:3] + state_of(world)[4:], before[:3] + before[4:])


class Links(WorldTest):
    def test_cut_and_heal(self):
        world = mixed()
        for pair in ((0, 1), (4, 3), (0, 1), (2, 2), (0, 0)):
            self.assertIsNone(world.cut(*pair))
        self.assertEqual(world.mail.cut_links(), [(0, 0), (0, 1), (2, 2), (4, 3)])
        for pair in ((0, 1), (0, 1), (1, 0), (0, 0), (3, 3)):
            self.assertIsNone(world.heal(*pair))
        self.assertEqual(world.mail.cut_links(), [(2, 2), (4, 3)])

    def test_no_site(self):
        world = mixed()
        world.cut(0, 1)
        for word in ("cut", "heal"):
            for pair in ((5, 0), (0, 5), (5, 5), (100, 1)):
                self.assertRefused(NoSite, world, word, *pair)
            for pair in ((-1, 0), (0, -1)):
                self.assertRaises(NoSite, getattr(world, word), *pair)


if __name__ == "__main__":
    unittest.main()
