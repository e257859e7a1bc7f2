"""Points [86] to [88]: feeds and followers."""

import unittest

from partmeet.errors import Behind, MeetError
from partmeet.feeds.feed import Feed, Follower, feed_of
from partmeet.feeds.patches import patch_of
from partmeet.feeds.views import EMPTY_VIEW, view_of
from partmeet.packing.lines import pack, unpack
from partmeet.twin.twin import events_of
from tests.sites import vector
from tests.states import state_of, tell, world_of
from tests.test_views import view_meant
from tests.worlds import Course
from tests.writers import KEYS


def shape(feed):
    return feed.names, feed.vector_told, dict(feed.views), feed.as_data()


class Asking(unittest.TestCase):
    def setUp(self):
        self.world = world_of(3)
        self.feed = Feed(("a", "k", "t"))

    def site(self, number):
        return self.world.stations[number].site

    def assertBehind(self, feed, site):
        before = shape(feed)
        with self.assertRaises(Behind) as caught:
            feed.ask(site)
        self.assertIs(caught.exception.__class__, Behind)
        self.assertEqual(shape(feed), before)

    def test_a_new_feed(self):
        self.assertEqual((self.feed.names, self.feed.vector_told), (("a", "k", "t"), vector()))
        self.assertEqual(self.feed.views, {"a": EMPTY_VIEW, "k": EMPTY_VIEW, "t": EMPTY_VIEW})
        self.assertEqual((Feed(()).views, Feed(()).ask(self.site(0))), ({}, []))

    def test_keys_of_which_nothing_is_known(self):
        self.assertEqual(self.feed.ask(self.site(0)), [])
        self.world.write(0, 0, ("inc", "other", 1))
        self.assertEqual(self.feed.ask(self.site(0)), [])
        # The vector is kept all the same.
        self.assertEqual(self.feed.vector_told, vector(1))
        self.assertBehind(self.feed, self.site(1))

    def test_what_it_tells(self):
        self.world.write(0, 0, ("insert", "t", None, "A"))
        self.world.write(0, 0, ("set", "k", 1))
        told = self.feed.ask(self.site(0))
        self.assertEqual(told, [("k", (("register", (), (((0, 2), 1),)),)),
                                ("t", (("text", (), ((None, (0, 1), "A"),)),))])
        view = ((((0, 2), 1),), 0, (), ())
        self.assertEqual(self.feed.views, {"a": EMPTY_VIEW, "k": view, "t": EMPTY_VIEW[:3] + ((((0, 1), "A"),),)})
        self.assertEqual(self.feed.vector_told, vector(2))
        self.world.write(0, 0, ("inc", "a", 5))
        self.world.write(0, 0, ("set", "k", 2))
        self.assertEqual(self.feed.ask(self.site(0)), [("a", (("counter", 5),)),
                                                       ("k", (("register", ((0, 2),), (((0, 4), 2),)),))])

    def test_asked_twice(self):
        self.world.write(0, 0, ("add", "k", 1))
        self.assertEqual(len(self.feed.ask(self.site(0))), 1)
        before = shape(self.feed)
        self.assertEqual(self.feed.ask(self.site(0)), [])
        self.assertEqual(shape(self.feed), before)

    def test_asking_changes_nothing_at_the_site(self):
        self.world.write(0, 0, ("add", "k", 1))
        tell(self.world, 0, 1)
        before = state_of(self.world)
        self.feed.ask(self.site(1)).append(5)
        self.feed.ask(self.site(1))
        self.assertEqual(state_of(self.world), before)

    def test_any_object_with_the_fields(self):
        class Other:
            pass

        self.world.write(0, 0, ("add", "k", 1))
        site, other = self.site(0), Other()
        other.vector, other.base, other.held = site.vector, site.base, site.held
        self.assertEqual(self.feed.ask(other), [("k", (("members", (), (1,)),))])

    def test_at_another_site(self):
        self.world.write(0, 0, ("add", "k", 1))
        self.feed.ask(self.site(0))
        self.assertBehind(self.feed, self.site(1))
        self.world.write(1, 1, ("add", "k", 2))
        self.assertBehind(self.feed, self.site(1))
        tell(self.world, 0, 1)
        self.assertEqual(self.feed.ask(self.site(1)), [("k", (("members", (), (2,)),))])
        self.assertBehind(self.feed, self.site(0))
        tell(self.world, 1, 0)
        self.assertEqual(self.feed.ask(self.site(0)), [])
        # What is written for no key that it follows plays a part, too.
        self.world.write(0, 0, ("inc", "other", 1))
        self.feed.ask(self.site(0))
        self.assertBehind(self.feed, self.site(1))

    def test_behind_forgetting(self):
        for op in (("set", "k", 1), ("inc", "k", 2), ("add", "k", 3), ("insert", "k", None, "A")):
            self.world.write(0, 0, op)
        self.feed.ask(self.site(0))
        self.world.calm(4)
        self.assertEqual([self.site(number).held for number in range(3)], [[], [], []])
        for number in range(3):
            self.assertEqual(self.feed.ask(self.site(number)), [])
        fresh = Feed(("k",))
        self.assertEqual(fresh.ask(self.site(2)), [("k", patch_of(EMPTY_VIEW, self.feed.views["k"]))])
        self.world.write(0, 1, ("erase", "k", (0, 4)))
        self.assertEqual(self.feed.ask(self.site(1)), [("k", (("text", ((0, 4),), ()),))])

    def test_behind_a_crash_and_a_restart(self):
        self.world.write(0, 0, ("add", "k", 1))
        tell(self.world, 0, 1)
        self.feed.ask(self.site(1))
        self.world.crash(1, 0)
        self.world.restart(1)
        # What it had heard was not synced.
        self.assertBehind(self.feed, self.site(1))
        self.assertEqual(self.feed.ask(self.site(0)), [])
        tell(self.world, 0, 1)
        self.assertEqual(self.feed.ask(self.site(1)), [])
        self.world.sync(1)
        self.world.crash(1, 0)
        self.world.restart(1)
        self.assertEqual(self.feed.ask(self.site(1)), [])

    def test_an_ack_that_a_crash_takes_back(self):
        """The feed was told at a vector with an ack whose dot is another event's behind the crash."""
        self.world.wipe(2)
        self.world.retire(1, 2)
        tell(self.world, 1, 0)
        self.feed.ask(self.site(0))
        self.assertEqual(self.feed.vector_told, vector(1, 2))
        self.world.crash(0, 0)
        self.world.restart(0)
        self.assertBehind(self.feed, self.site(0))
        self.world.write(0, 0, ("add", "k", 1))
        tell(self.world, 1, 0)
        self.assertEqual(self.feed.ask(self.site(0)), [("k", (("members", (), (1,)),))])

    def test_at_a_site_that_was_handed(self):
        world = self.world = world_of(4, (0, 1, 2))
        world.write(0, 0, ("add", "k", 1))
        world.admit(0, 3)
        world.calm(3)
        self.feed.ask(self.site(1))
        world.write(1, 1, ("inc", "k", 1))
        world.hand(0, 3)
        self.assertEqual(self.feed.ask(self.site(3)), [])
        tell(world, 1, 3)
        self.assertEqual(self.feed.ask(self.site(3)), [("k", (("counter", 1),))])

    def test_several_keys_of_which_some_changed(self):
        for key in ("a", "k", "t"):
            self.world.write(0, 0, ("inc", key, 1))
        self.assertEqual([key for key, patch in self.feed.ask(self.site(0))], ["a", "k", "t"])
        self.world.write(0, 0, ("inc", "t", 1))
        self.world.write(0, 0, ("inc", "a", 0))
        self.world.write(0, 0, ("inc", "k", 1))
        self.assertEqual(self.feed.ask(self.site(0)), [("k", (("counter", 1),)), ("t", (("counter", 1),))])
        self.world.write(0, 0, ("inc", "t", 1))
        self.world.write(0, 0, ("inc", "t", -1))
        self.assertEqual(self.feed.ask(self.site(0)), [])

    def test_data_and_forks(self):
        feed = self.feed
        for other in (feed_of(feed.as_data()), feed.fork()):
            self.assertEqual(shape(other), shape(feed))
        for op in (("set", "k", "b"), ("insert", "t", None, "A"), ("add", "k", 1), ("inc", "k", -4)):
            self.world.write(0, 0, op)
        feed.ask(self.site(0))
        data = feed.as_data()
        self.assertEqual(unpack(pack(data)), data)
        for other in (feed_of(unpack(pack(data))), feed.fork()):
            self.assertIs(other.__class__, Feed)
            self.assertEqual(shape(other), shape(feed))
            self.assertIsNot(other.views, feed.views)

    def test_going_on_apart(self):
        feed = self.feed
        self.world.write(0, 0, ("inc", "k", 1))
        feed.ask(self.site(0))
        twin, third = feed.fork(), feed_of(feed.as_data())
        self.world.write(0, 0, ("inc", "k", 1))
        before = shape(feed)
        self.assertEqual(twin.ask(self.site(0)), [("k", (("counter", 1),))])
        self.assertEqual((shape(feed), shape(third)), (before, before))
        self.world.write(0, 0, ("inc", "k", 1))
        self.assertEqual(third.ask(self.site(0)), [("k", (("counter", 2),))])
        self.assertEqual(twin.ask(self.site(0)), [("k", (("counter", 1),))])
        self.assertEqual(feed.ask(self.site(0)), [("k", (("counter", 2),))])


class Followers(unittest.TestCase):
    def test_a_new_follower(self):
        follower = Follower()
        self.assertEqual((follower.views, follower.view("k"), follower.views), ({}, EMPTY_VIEW, {}))

    def test_take(self):
        world = world_of(2)
        feed, follower = Feed(("k", "t")), Follower()
        world.write(0, 0, ("insert", "t", None, "A"))
        told = feed.ask(world.stations[0].site)
        copy = list(told)
        self.assertIsNone(follower.take(told))
        self.assertEqual(told, copy)
        self.assertEqual(follower.views, {"t": EMPTY_VIEW[:3] + ((((0, 1), "A"),),)})
        self.assertEqual((follower.view("t"), follower.view("k")), (feed.views["t"], EMPTY_VIEW))
        self.assertIsNone(follower.take([]))
        self.assertEqual(list(follower.views), ["t"])

    def test_what_several_asks_tell(self):
        world = world_of(2)
        feed, follower = Feed(("k", "t")), Follower()
        ops = (("set", "k", 1), ("set", "k", 2), ("add", "t", "x"), ("insert", "t", None, "A"),
               ("insert", "t", (0, 4), "B"), ("erase", "t", (0, 4)), ("remove", "t", "x"), ("inc", "k", 5))
        for at, op in enumerate(ops):
            world.write(0, 0, op)
            if at % 2:
                tell(world, 0, 1)
            follower.take(feed.ask(world.stations[at % 2].site))
            self.assertEqual((follower.view("k"), follower.view("t")), (feed.views["k"], feed.views["t"]))
        self.assertEqual((follower.view("k"), follower.view("t")),
                         (((((0, 2), 2),), 5, (), ()), ((), 0, (), (((0, 5), "B"),))))

    def test_several_feeds(self):
        """Whatever tells it of a key, as long as it is one feed for each."""
        world = world_of(1)
        feeds, follower = [Feed(("k",)), Feed(("a", "t"))], Follower()
        for key in ("k", "t"):
            world.write(0, 0, ("add", key, key))
        for feed in feeds:
            follower.take(feed.ask(world.stations[0].site))
        self.assertEqual([follower.view(key)[2] for key in ("a", "k", "t")], [(), ("k",), ("t",)])
        self.assertEqual(sorted(follower.views), ["k", "t"])


class Reader:
    """A feed of all keys and its follower, who see that no place comes twice, and none that is gone again."""

    def __init__(self):
        self.feed = Feed(KEYS)
        self.follower = Follower()
        self.there = set()
        self.ever = set()

    def ask(self, world, site):
        """Ask; return what was told."""
        before = {key: self.follower.view(key) for key in KEYS}
        told = self.feed.ask(site)
        for key, patch in told:
            assert patch != ()
            for part in patch:
                if part[0] == "text":
                    self.look_at_places({(key, dot) for dot in part[1]}, [(key, dot) for _, dot, _ in part[2]])
        self.follower.take(told)
        events = events_of(world, site.vector)
        for key in KEYS:
            assert self.follower.view(key) == self.feed.views[key] == view_of(site.base, site.held, key)
            assert self.follower.view(key) == view_meant(events, key)
        assert [key for key, _ in told] == [key for key in KEYS if self.follower.view(key) != before[key]]
        assert self.feed.vector_told == site.vector and self.feed.ask(site) == []
        return told

    def look_at_places(self, gone, came):
        assert gone <= self.there
        assert len(set(came)) == len(came) and not self.ever & set(came)
        self.there = (self.there - gone) | set(came)
        self.ever |= set(came)


class InWorlds(unittest.TestCase):
    def test_worlds_by_chance(self):
        counts = {"told": 0, "nothing": 0, "behind": 0, "gone": 0}
        for seed in range(500, 580):
            with self.subTest(seed=seed):
                course = Course(seed)
                readers = [Reader() for _ in range(3)]
                for _ in range(160):
                    course.step()
                    up = course.in_state("up")
                    if up and course.chance.random() < 0.6:
                        self.ask(course.chance.choice(readers), course, course.chance.choice(up), counts)
                if course.end():
                    for reader in readers:
                        self.ask(reader, course, course.in_state("up")[0], counts)
        for word in counts:
            self.assertGreater(counts[word], 300, word)

    def ask(self, reader, course, number, counts):
        site = course.site(number)
        before = shape(reader.feed)
        gone = len(reader.ever) - len(reader.there)
        try:
            told = reader.ask(course.world, site)
        except MeetError as error:
            self.assertIs(error.__class__, Behind)
            self.assertEqual(shape(reader.feed), before)
            counts["behind"] += 1
            return
        counts["told" if told else "nothing"] += 1
        counts["gone"] += len(reader.ever) - len(reader.there) - gone


if __name__ == "__main__":
    unittest.main()
