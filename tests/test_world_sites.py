"""Points [66] to [68] and [70]: syncing, forgetting, crashes, sites that are lost, retired, admitted and handed."""

import unittest

from partmeet.errors import (Absent, NoSite, NotReady, OutOfRange, Retired, SiteDown, SiteGone, SiteUp, StillThere)
from partmeet.packing.lines import unpack
from partmeet.replica.replica import Site
from tests.sites import vector
from tests.states import WorldTest, state_of, state_of_station, tell, unsynced, world_of

OP = ("set", "k", 1)


def mixed():
    """A world of six sites: 0 and 1 are up, 2 is down, 3 is gone, 4 and 5 are absent."""
    world = world_of(6, (0, 1, 2, 3))
    world.write(0, 1, OP)
    tell(world, 1, 0)
    world.crash(2, 0)
    world.wipe(3)
    return world


def told_by(world, site):
    return [unpack(payload) for payload in world.stations[site].disk.payloads()]


def only_changed(before, after):
    """The numbers of the stations that changed, if nothing else did."""
    assert before[1:] == after[1:]
    return [one[0] for one, other in zip(before[0], after[0]) if one != other]


class Refusals(WorldTest):
    """RUNNING and BEGUN, for all calls that ask for them; calls of a client and messages are tested elsewhere."""

    def test_running(self):
        world = mixed()
        for site, error in ((6, NoSite), (77, NoSite), (3, SiteGone), (4, Absent), (2, SiteDown)):
            self.assertRefused(error, world, "sync", site)
            self.assertRefused(error, world, "forget", site)
            self.assertRefused(error, world, "crash", site, 0)
            self.assertRefused(error, world, "crash", site, 1000001)
            for word in ("retire", "admit", "hand"):
                # Ahead of what is wrong with the other one, which is none at all, gone, absent, up or down.
                for other in (9, 3, 4, 5, 1, 2):
                    self.assertRefused(error, world, word, site, other)
        for word, others in (("sync", ()), ("forget", ()), ("crash", (0,)), ("retire", (3,)), ("admit", (4,)),
                             ("hand", (4,)), ("restart", ()), ("wipe", ())):
            self.assertRaises(NoSite, getattr(world, word), -1, *others)

    def test_begun(self):
        world = mixed()
        for site, error in ((6, NoSite), (77, NoSite), (3, SiteGone), (4, Absent), (0, SiteUp)):
            self.assertRefused(error, world, "restart", site)

    def test_wipe(self):
        world = mixed()
        for site, error in ((6, NoSite), (77, NoSite), (3, SiteGone)):
            self.assertRefused(error, world, "wipe", site)

    def test_absent(self):
        world = mixed()
        for word in ("admit", "hand"):
            for new, error in ((6, NoSite), (77, NoSite), (0, OutOfRange), (1, OutOfRange), (2, OutOfRange),
                               (3, OutOfRange)):
                self.assertRefused(error, world, word, 0, new)
            self.assertRaises(NoSite, getattr(world, word), 0, -1)


class Syncing(WorldTest):
    def test_sync(self):
        world = mixed()
        self.assertGreater(unsynced(world, 0), 0)
        before = state_of(world)
        self.assertIsNone(world.sync(0))
        self.assertEqual((unsynced(world, 0), only_changed(before, state_of(world))), (0, [0]))
        world.crash(0, 0)
        world.restart(0)
        self.assertEqual(world.stations[0].site.latest("k"), [1])


class Forgetting(WorldTest):
    def test_nothing_to_fold(self):
        world = world_of(2)
        world.write(0, 0, OP)
        before = state_of(world)
        self.assertEqual((world.forget(0), world.forget(1)), (0, 0))
        self.assertEqual(state_of(world), before)

    def test_something_to_fold(self):
        world = world_of(2)
        world.write(0, 0, OP)
        world.write(0, 0, ("inc", "k", 2))
        tell(world, 0, 1, 0)
        before = state_of(world)
        self.assertEqual(world.forget(0), 2)
        self.assertEqual(only_changed(before, state_of(world)), [0])
        site = world.stations[0].site
        self.assertEqual((site.held, site.base.vector), ([], vector(2)))
        self.assertEqual(told_by(world, 0), [("image", site.image())])
        # Nothing is synced then, and the disk was synced when it was renewed.
        self.assertEqual(unsynced(world, 0), len(world.stations[0].disk.images()[0]))
        self.assertEqual(world.read(1, 0, "counter", "k"), 2)
        self.assertEqual(unsynced(world, 0), 0)

    def test_a_crash_behind_forgetting(self):
        world = world_of(2)
        world.write(0, 0, OP)
        tell(world, 0, 1)
        self.assertEqual(world.forget(1), 1)
        world.crash(1, 0)
        world.restart(1)
        # The event was heard, not synced; the renewing synced it, though the new area was lost.
        self.assertEqual((world.stations[1].site.latest("k"), len(world.stations[1].site.held)), ([1], 1))
        self.assertEqual(world.forget(1), 1)
        world.crash(1, 100000)
        world.restart(1)
        self.assertEqual((world.stations[1].site.latest("k"), world.stations[1].site.held), ([1], []))


class Crashing(WorldTest):
    def test_crash_and_restart(self):
        world = mixed()
        late = unsynced(world, 0)
        before = state_of(world)
        self.assertIsNone(world.crash(0, late - 1))
        self.assertEqual(only_changed(before, state_of(world)), [0])
        station = world.stations[0]
        self.assertEqual((station.state, station.site.vector, told_by(world, 0), unsynced(world, 0)),
                         ("down", vector(), [], 0))
        self.assertRefused(SiteDown, world, "crash", 0, 0)
        before = state_of(world)
        self.assertIsNone(world.restart(0))
        self.assertEqual(only_changed(before, state_of(world)), [0])
        self.assertEqual((station.state, station.site.latest("k")), ("up", []))
        self.assertRefused(SiteUp, world, "restart", 0)

    def test_all_octets_stay(self):
        for beyond in (0, 1, 100000):
            world = mixed()
            image = world.stations[0].site.image()
            world.crash(0, unsynced(world, 0) + beyond)
            world.restart(0)
            self.assertEqual(world.stations[0].site.latest("k"), [1])
            self.assertEqual(world.stations[0].site.vector, vector(0, 1))
            self.assertEqual(world.stations[0].site.image()[1], image[1])

    def test_counts(self):
        world = mixed()
        for count in (1000001, 10 ** 9):
            self.assertRefused(OutOfRange, world, "crash", 0, count)
        self.assertRaises(OutOfRange, world.crash, 0, -1)
        self.assertIsNone(world.crash(0, 1000000))
        self.assertRefused(SiteDown, world, "crash", 0, 1000001)

    def test_a_vector_that_was_told_alone_is_no_event(self):
        """What a site heard without an event is not on its disk, and does no harm when it is lost."""
        world = world_of(2)
        world.write(0, 0, OP)
        tell(world, 0, 1, 0)
        self.assertEqual(world.stations[0].site.stable(), vector(1))
        world.crash(0, 0)
        world.restart(0)
        self.assertEqual(world.stations[0].site.stable(), vector())
        self.assertEqual(world.forget(0), 0)
        tell(world, 1, 0)
        self.assertEqual(world.forget(0), 1)


class Wiping(WorldTest):
    def test_wipe(self):
        for site in (0, 2, 4):
            world = mixed()
            before = state_of(world)
            self.assertIsNone(world.wipe(site))
            self.assertEqual(only_changed(before, state_of(world)), [site])
            station = world.stations[site]
            self.assertEqual((station.state, station.disk.images()), ("gone", ([], [])))
            self.assertEqual(station.site.image(), Site(site, 6, (0, 1, 2, 3)).image())
            self.assertRefused(SiteGone, world, "restart", site)
            self.assertRefused(SiteGone, world, "wipe", site)
            self.assertRefused(SiteGone, world, "sync", site)

    def test_what_was_noted_stays(self):
        world = mixed()
        world.wipe(1)
        self.assertEqual((list(world.written), len(world.history), world.clients[0].token),
                         ([(1, 1)], 1, vector(0, 1)))


class Retiring(WorldTest):
    def test_what_it_does(self):
        world = mixed()
        history, tokens = list(world.history), [client.token for client in world.clients]
        self.assertEqual(world.retire(0, 3), (0, 1))
        # A site that retires wants an ack, and writes it in the same step.
        self.assertEqual([world.written[(0, n)][4] for n in (1, 2)], [("retire", 3, (4, 5)), ("ack", (3,))])
        self.assertEqual([event[4] for word, event in told_by(world, 0)], [OP, ("retire", 3, (4, 5)), ("ack", (3,))])
        self.assertEqual(unsynced(world, 0), 0)
        self.assertEqual((world.history, [client.token for client in world.clients]), (history, tokens))

    def test_who_is_named_as_absent(self):
        world = mixed()
        world.wipe(4)
        world.retire(0, 3)
        self.assertEqual(world.written[(0, 1)][4], ("retire", 3, (5,)))
        world.retire(0, 4)
        self.assertEqual(world.written[(0, 3)][4], ("retire", 4, (5,)))
        # A site that is coming has not begun either.
        world = world_of(4, (0, 1))
        world.admit(0, 2)
        world.wipe(1)
        world.retire(0, 1)
        self.assertEqual(world.written[(0, 2)][4], ("retire", 1, (2, 3)))
        world.hand(0, 2)
        world.wipe(3)
        world.retire(2, 3)
        self.assertEqual([event[4] for event in world.written.values() if event[4][:2] == ("retire", 3)],
                         [("retire", 3, ())])

    def test_one_that_is_retiring_already(self):
        world = mixed()
        world.retire(1, 3)
        tell(world, 1, 0)
        self.assertGreater(unsynced(world, 0), 0)
        written, payloads = dict(world.written), told_by(world, 0)
        before = state_of_station(world.stations[0])
        self.assertIsNone(world.retire(0, 3))
        self.assertEqual((world.written, told_by(world, 0)), (written, payloads))
        # The disk is synced all the same, and nothing else changed.
        self.assertEqual(unsynced(world, 0), 0)
        after = state_of_station(world.stations[0])
        self.assertEqual(after[:8] + after[9:], before[:8] + before[9:])

    def test_no_site(self):
        world = mixed()
        for other in (6, 77, 0):
            self.assertRefused(NoSite, world, "retire", 0, other)
        self.assertRaises(NoSite, world.retire, 0, -1)

    def test_still_there(self):
        world = mixed()
        world.stations[0].site.knowing.retiring = (0,)
        for other in (1, 2, 4, 5):
            self.assertRefused(StillThere, world, "retire", 0, other)
        self.assertRefused(NoSite, world, "retire", 0, 0)
        self.assertRefused(Retired, world, "retire", 0, 3)
        # Also of one that it knows to be retiring.
        world.stations[0].site.knowing.retiring = (0, 3)
        self.assertRefused(Retired, world, "retire", 0, 3)


class Admitting(WorldTest):
    def test_what_it_does(self):
        world = mixed()
        self.assertEqual(world.admit(0, 5), (0, 1))
        self.assertEqual(world.written[(0, 1)], (0, 1, vector(0, 1), 2, ("admit", 5)))
        self.assertEqual((len(told_by(world, 0)), unsynced(world, 0)), (2, 0))
        self.assertEqual((world.stations[5].state, world.stations[0].site.knowing.admit_of(5)), ("absent", (0, 1)))
        self.assertEqual(len(world.history), 1)
        world.crash(0, 0)
        world.restart(0)
        self.assertEqual(world.stations[0].site.knowing.admit_of(5), (0, 1))

    def test_what_the_site_refuses(self):
        world = mixed()
        world.admit(0, 5)
        tell(world, 0, 1)
        # It is coming already, for both.
        self.assertRefused(OutOfRange, world, "admit", 0, 5)
        self.assertRefused(OutOfRange, world, "admit", 1, 5)
        self.assertEqual(world.admit(0, 4), (0, 2))
        world.stations[0].site.knowing.retiring = (0,)
        self.assertRefused(Retired, world, "admit", 0, 5)
        self.assertRefused(OutOfRange, world, "admit", 0, 1)
        self.assertRefused(NoSite, world, "admit", 0, 6)

    def test_two_admit_the_same(self):
        world = mixed()
        self.assertEqual((world.admit(0, 5), world.admit(1, 5)), ((0, 1), (1, 2)))


class Handing(WorldTest):
    def ready(self):
        """Site 2 may be handed by both others, who hold something and forgot something."""
        world = world_of(4, (0, 1))
        world.write(0, 0, ("add", "k", "x"))
        world.calm(2)
        world.admit(0, 2)
        world.calm(2)
        world.write(1, 1, ("add", "k", "y"))
        tell(world, 1, 0)
        return world

    def test_what_it_does(self):
        world = self.ready()
        self.assertGreater(unsynced(world, 0), 0)
        self.assertIsNone(world.hand(0, 2))
        self.assertEqual(world.written[(0, 3)][4], ("begin", 2))
        self.assertEqual((told_by(world, 0)[-1], unsynced(world, 0)), (("event", world.written[(0, 3)]), 0))
        station = world.stations[2]
        self.assertEqual((station.state, station.site.number, station.site.members("k")), ("up", 2, ["x", "y"]))
        self.assertEqual(station.site.vector, world.stations[0].site.vector)
        self.assertEqual((told_by(world, 2), unsynced(world, 2), station.disk.turn()),
                         ([("image", station.site.image())], 0, 1))
        self.assertEqual(len(world.history), 2)
        self.assertRefused(OutOfRange, world, "hand", 0, 2)
        self.assertRefused(OutOfRange, world, "hand", 1, 2)
        self.assertRefused(OutOfRange, world, "admit", 1, 2)

    def test_one_that_begins_crashes_and_comes_back(self):
        world = self.ready()
        world.hand(1, 2)
        image = world.stations[2].site.image()
        world.crash(2, 0)
        self.assertEqual(world.stations[2].site.image(), Site(2, 4, (0, 1)).image())
        world.restart(2)
        self.assertEqual(world.stations[2].site.image(), image)
        self.assertEqual(world.write(2, 2, ("add", "k", "z")), (2, 1))
        world.crash(2, 0)
        world.restart(2)
        self.assertEqual(world.read(2, 2, "members", "k"), ["x", "y", "z"])
        world.calm(3)
        self.assertEqual(world.read(2, 0, "members", "k"), ["x", "y", "z"])

    def test_what_clients_saw_is_there(self):
        world = self.ready()
        world.hand(0, 2)
        for client in range(3):
            self.assertEqual(world.read(client, 2, "members", "k"), ["x", "y"])

    def test_not_ready(self):
        world = self.ready()
        self.assertRefused(NotReady, world, "hand", 0, 3)
        world.admit(0, 3)
        self.assertRefused(NotReady, world, "hand", 0, 3)
        self.assertRefused(NotReady, world, "hand", 1, 3)
        tell(world, 0, 1, 0)
        self.assertIsNone(world.hand(0, 3))

    def test_a_retired_site_hands_nobody(self):
        world = self.ready()
        world.stations[0].site.knowing.retiring = (0,)
        self.assertRefused(Retired, world, "hand", 0, 2)
        self.assertRefused(Retired, world, "hand", 0, 3)
        self.assertRefused(OutOfRange, world, "hand", 0, 1)

    def test_one_that_is_lost_ahead_of_its_beginning(self):
        world = self.ready()
        world.wipe(2)
        self.assertRefused(OutOfRange, world, "hand", 0, 2)
        self.assertEqual(world.retire(0, 2), (0, 3))
        world.calm(6)
        self.assertEqual([world.stations[site].site.held for site in (0, 1)], [[], []])

    def test_handing_behind_a_loss(self):
        """A site that is handed may want an ack; a site that hands with one due writes it in the same step."""
        world = self.ready()
        world.calm(2)
        world.wipe(1)
        world.retire(0, 1)
        world.hand(0, 2)
        self.assertEqual(world.stations[2].site.knowing.retiring, (1,))
        self.assertTrue(world.stations[2].site.knowing.wants_ack())
        world.calm(4)
        self.assertFalse(world.stations[2].site.knowing.wants_ack())
        self.assertEqual([world.stations[site].site.held for site in (0, 2)], [[], []])


if __name__ == "__main__":
    unittest.main()
