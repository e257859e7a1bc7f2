"""Points [8] to [12], [62], [76] to [80], [90] and [93]: whole worlds, with all calls in drawn order."""

import unittest

from partmeet.errors import NoPlace, NotReady
from partmeet.judge.events import fault_of_events
from partmeet.twin.twin import events_of, fault_of_world, is_at_rest
from tests.states import tell, world_of
from tests.worlds import WEIGHTS, Course


class ByChance(unittest.TestCase):
    def test_worlds_by_chance(self):
        done, ended, lost_together = {}, 0, 0
        for seed in range(120):
            with self.subTest(seed=seed):
                course = Course(seed)
                for _ in range(100 + seed):
                    course.step()
                    lost_together += len(course.in_state("gone")) > 1
                course.look_at_evidence()
                ended += course.end()
                for word in course.done:
                    done[word] = done.get(word, 0) + course.done[word]
                for word in ((("write", NoPlace), ("hand", NotReady))):
                    done[word] = done.get(word, 0) + course.refused.get(word, 0)
        for word, often in WEIGHTS:
            self.assertGreater(done[word], 5 * often, word)
        self.assertGreater(min(done[("write", NoPlace)], done[("hand", NotReady)], lost_together), 10)
        self.assertGreater(ended, 115)

    def test_small_worlds(self):
        """Few sites, of which many are lost and come."""
        for seed in range(1000, 1060):
            with self.subTest(seed=seed):
                course = Course(seed, most=3)
                course.words += ["admit", "hand", "crash", "restart"] * 20
                for _ in range(150):
                    course.step()
                course.end()

    def test_a_long_course(self):
        course = Course(9, most=8)
        for _ in range(1000):
            course.step()
        self.assertGreater(len(course.world.written), 100)
        self.assertTrue(course.end())


class Losses(unittest.TestCase):
    def kind(self, world):
        """Let the told number of kind rounds go by, and see that the world is at rest, and stays so."""
        world.calm(10 + len(world.written))
        self.assertIsNone(fault_of_world(world))
        self.assertTrue(is_at_rest(world))
        world.calm(5)
        self.assertTrue(is_at_rest(world))

    def written_at_all(self, size):
        world = world_of(size)
        for site in range(size):
            world.write(0, site, ("inc", "k", 10 ** site))
            for other in range(size):
                if other != site:
                    tell(world, site, other)
        return world

    def test_two_are_lost_at_once(self):
        """Site 3 told its last write to site 2 alone, and then both are lost; site 2 had told site 1."""
        world = self.written_at_all(4)
        world.write(0, 3, ("inc", "k", 5000))
        tell(world, 3, 2, 1)
        world.wipe(2)
        world.wipe(3)
        world.retire(0, 3)
        world.retire(1, 2)
        self.kind(world)
        self.assertEqual([world.stations[site].site.counter("k") for site in (0, 1)], [6111, 6111])
        self.assertEqual([world.stations[site].site.knowing.over for site in (0, 1)], [(2, 3), (2, 3)])

    def test_one_behind_another(self):
        world = self.written_at_all(5)
        for lost in (4, 3, 2, 1):
            world.write(1, 0, ("inc", "k", 1))
            world.wipe(lost)
            world.retire(0, lost)
            self.kind(world)
        self.assertEqual(world.read(1, 0, "counter", "k"), 11115)

    def test_a_site_that_takes_over_for_a_lost_one(self):
        world = world_of(5, (0, 1))
        world.write(0, 0, ("add", "k", "x"))
        for new, lost in ((2, 0), (3, 1), (4, 2)):
            world.admit(lost, new)
            world.calm(3)
            world.hand(lost, new)
            world.calm(3)
            world.wipe(lost)
            world.retire(new, lost)
            self.kind(world)
        self.assertEqual(world.read(0, 3, "members", "k"), ["x"])
        self.assertEqual([station.state for station in world.stations], ["gone", "gone", "gone", "up", "up"])

    def test_what_a_client_saw_is_lost_with_a_site(self):
        """Point [62]: nobody answers it any more; another client is answered."""
        world = world_of(3)
        world.write(0, 2, ("set", "k", 1))
        world.wipe(2)
        world.retire(0, 2)
        self.kind(world)
        for site in (0, 1):
            self.assertFalse(world.clients[0].may_ask(world.stations[site].site.vector))
        self.assertEqual(world.read(1, 1, "register", "k"), [])

    def test_the_message_of_a_lost_site_that_comes_late(self):
        """What only a lost site knew does no harm once all have let it go."""
        world = world_of(3)
        world.write(0, 2, ("set", "k", 1))
        late = world.say(2, 0)
        world.cut(2, 0)
        world.wipe(2)
        world.retire(0, 2)
        # Kind rounds would lose it, so the sites meet by themselves.
        for _ in range(3):
            tell(world, 0, 1, 0)
            world.forget(0)
            world.forget(1)
        self.assertTrue(is_at_rest(world))
        world.heal(2, 0)
        world.deliver(late)
        self.assertTrue(is_at_rest(world))
        self.kind(world)
        self.assertEqual(world.read(1, 0, "register", "k"), [])

    def test_all_but_coming_sites_at_rest(self):
        """Point [80]: what is coming may be handed by each."""
        world = world_of(5, (0, 1, 2))
        world.admit(0, 3)
        world.admit(1, 4)
        world.wipe(2)
        world.retire(0, 2)
        world.calm(10 + len(world.written))
        for site in (0, 1):
            self.assertEqual([world.stations[site].site.may_hand(new) for new in (3, 4)], [True, True])
        world.hand(0, 3)
        world.hand(1, 4)
        self.kind(world)

    def test_a_crash_in_the_midst_of_forgetting_at_each_octet(self):
        world = self.written_at_all(2)
        world.calm(1)
        disk = world.stations[0].disk
        world.write(1, 0, ("inc", "k", 100))
        tell(world, 0, 1, 0)
        self.assertEqual(world.forget(0), 1)
        for count in range(0, disk.unsynced() + 10, 3):
            fork = disk.fork()
            twin = self.written_at_all(2)
            twin.calm(1)
            twin.write(1, 0, ("inc", "k", 100))
            tell(twin, 0, 1, 0)
            twin.forget(0)
            self.assertEqual(twin.stations[0].disk.images(), fork.images())
            twin.crash(0, count)
            twin.restart(0)
            self.assertEqual(twin.read(1, 0, "counter", "k"), 111)
            self.kind(twin)


class EventsOfWorlds(unittest.TestCase):
    def test_noted_events_that_nobody_knows_any_more(self):
        """Acks that a crash took back are noted still, and play no part."""
        world = world_of(4)
        world.wipe(3)
        world.retire(1, 3)
        tell(world, 1, 0)
        world.wipe(2)
        world.retire(1, 2)
        tell(world, 1, 0)
        self.assertEqual([e[4] for e in world.written.values() if e[0] == 0], [("ack", (3,)), ("ack", (2, 3))])
        world.crash(0, 0)
        world.restart(0)
        self.assertEqual(world.stations[0].site.vector, (0,) * 8)
        world.write(0, 0, ("set", "k", 1))
        self.assertEqual([e[4] for e in world.written.values() if e[0] == 0], [("set", "k", 1), ("ack", (2, 3))])
        self.assertIsNone(fault_of_world(world))
        world.calm(3)
        for station in world.stations[:2]:
            self.assertIsNone(fault_of_events(events_of(world, station.site.vector)))
        self.assertTrue(is_at_rest(world))


if __name__ == "__main__":
    unittest.main()
