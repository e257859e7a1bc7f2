"""Points [63], [64], [67] and [68]: stations, what is on their disks, and which site these tell."""

import unittest

from partmeet.disk.disk import Disk
from partmeet.packing.frames import frame
from partmeet.packing.lines import pack, unpack
from partmeet.replica.replica import Site
from partmeet.world.station import Station, site_on
from tests.sites import meet, tell, vector


def stations(size, first=None):
    first = tuple(range(size)) if first is None else first
    return [Station(number, size, first) for number in range(size)]


def write(station, *ops):
    """Let the site of a station write, and keep it."""
    for op in ops:
        station.site.write(op)
    return station.keep()


def told_by(disk):
    return [unpack(payload) for payload in disk.payloads()]


def shape(site):
    return site.number, site.size, site.vector, site.image(), list(site.waiting), list(site._fresh)


def new_site(station):
    return shape(Site(station.number, station.size, station.first))


def fork(station):
    """A station in the same state, but for what is fresh or waits."""
    twin = Station(station.number, station.size, station.first)
    twin.state, twin.site, twin.disk = station.state, station.site.fork(), station.disk.fork()
    return twin


class Beginning(unittest.TestCase):
    def test_fields(self):
        station = Station(2, 4, (0, 2))
        self.assertEqual((station.number, station.size, station.first, station.state), (2, 4, (0, 2), "up"))
        self.assertIs(station.site.__class__, Site)
        self.assertIs(station.disk.__class__, Disk)
        self.assertEqual((shape(station.site), station.disk.images()), (new_site(station), ([], [])))

    def test_states(self):
        self.assertEqual([station.state for station in stations(4, (0, 2))], ["up", "absent", "up", "absent"])
        for station in stations(3, (1,)):
            self.assertEqual(shape(station.site), new_site(station))


class Keeping(unittest.TestCase):
    def test_what_is_written_is_appended_and_returned(self):
        station = stations(2)[0]
        written = write(station, ("set", "k", 1), ("inc", "k", 2))
        self.assertEqual(written, [(0, 1, vector(), 1, ("set", "k", 1)), (0, 2, vector(1), 2, ("inc", "k", 2))])
        self.assertEqual(told_by(station.disk), [("event", event) for event in written])
        self.assertEqual(station.disk.images()[0],
                         [octet for event in written for octet in frame(pack(("event", event)))])
        self.assertEqual(station.disk.unsynced(), len(station.disk.images()[0]))

    def test_nothing_fresh(self):
        station = stations(2)[0]
        self.assertEqual((station.keep(), station.disk.images()), ([], ([], [])))
        write(station, ("set", "k", 1))
        before = station.disk.images()
        self.assertEqual((station.keep(), station.disk.images()), ([], before))

    def test_what_is_heard_is_appended_and_not_returned(self):
        one, two = stations(2)
        theirs = write(two, ("set", "k", 1), ("set", "k", 2))
        one.site.write(("set", "k", 3))
        tell(two.site, one.site)
        mine = one.keep()
        self.assertEqual(mine, [(0, 1, vector(), 1, ("set", "k", 3))])
        self.assertEqual(told_by(one.disk), [("event", event) for event in mine + theirs])

    def test_an_ack_that_hearing_writes_is_returned(self):
        one, two, three = [Station(number, 3, (0, 1, 2)) for number in range(3)]
        two.site.retire(2, ())
        two.keep()
        tell(two.site, one.site)
        self.assertEqual([event[4] for event in one.keep()], [("ack", (2,))])
        self.assertEqual([data[1][4] for data in told_by(one.disk)], [("retire", 2, ()), ("ack", (2,)), ("ack", (2,))])

    def test_it_returns_a_new_list(self):
        station = stations(2)[0]
        write(station, ("set", "k", 1)).clear()
        station.site.held[0:0] = []
        self.assertEqual((len(station.site.held), len(station.disk.payloads())), (1, 1))


class Forgetting(unittest.TestCase):
    def setUp(self):
        self.one, self.two = stations(2)
        write(self.one, ("set", "k", 1), ("insert", "t", None, "A"))
        write(self.two, ("add", "k", "x"))

    def test_nothing_is_folded(self):
        self.one.disk.sync()
        write(self.one, ("inc", "k", 1))
        before = self.one.disk.images(), self.one.disk.unsynced()
        self.assertEqual(self.one.forget(), 0)
        self.assertEqual((self.one.disk.images(), self.one.disk.unsynced()), before)
        self.assertGreater(before[1], 0)

    def test_the_disk_is_renewed_with_the_image(self):
        meet(self.one.site, self.two.site)
        self.one.keep()
        before = self.one.disk.images()[0]
        self.assertEqual(self.one.forget(), 3)
        self.assertEqual(self.one.site.held, [])
        self.assertEqual(told_by(self.one.disk), [("image", self.one.site.image())])
        self.assertEqual((self.one.disk.turn(), self.one.disk.images()[1]), (1, before))
        self.assertEqual(self.one.disk.unsynced(), len(self.one.disk.images()[0]))
        self.assertEqual(self.one.forget(), 0)
        self.assertEqual(self.one.disk.turn(), 1)

    def test_the_image_has_what_is_left(self):
        one, two = stations(2)
        write(one, ("set", "k", 1), ("insert", "t", None, "A"))
        tell(one.site, two.site)
        two.keep()
        write(two, ("add", "k", "x"))
        self.assertEqual(two.forget(), 2)
        self.assertEqual([event[4] for event in two.site.held], [("add", "k", "x")])
        image = two.site.image()
        write(two, ("inc", "k", 9))
        self.assertEqual(told_by(two.disk), [("image", image), ("event", two.site.held[1])])
        self.assertEqual([event[4] for event in image[1]], [("add", "k", "x")])


class Crashes(unittest.TestCase):
    def setUp(self):
        self.one, self.two = stations(2)
        self.synced = write(self.one, ("set", "k", 1), ("insert", "t", None, "A"))
        self.one.disk.sync()
        self.late = write(self.one, ("inc", "k", 1)) + write(self.two, ("add", "k", "x"), ("add", "k", "y"))
        tell(self.two.site, self.one.site)
        self.one.keep()

    def sizes(self):
        return [len(frame(pack(("event", event)))) for event in self.late]

    def crashed(self, count):
        station = fork(self.one)
        self.assertIsNone(station.crash(count))
        self.assertEqual((station.state, shape(station.site)), ("down", new_site(station)))
        return station

    def assertComesUpWith(self, station, events):
        self.assertEqual(told_by(station.disk), [("event", event) for event in events])
        self.assertEqual(station.disk.unsynced(), 0)
        self.assertIsNone(station.restart())
        wanted = Site(0, 2, (0, 1))
        for event in events:
            wanted.take(event)
        self.assertEqual((station.state, shape(station.site)), ("up", shape(wanted)))
        self.assertEqual(station.site.held, events)

    def test_counts(self):
        sizes = self.sizes()
        self.assertEqual(self.one.disk.unsynced(), sum(sizes))
        for count, many in ((0, 0), (1, 0), (sizes[0] - 1, 0), (sizes[0], 1), (sizes[0] + 6, 1),
                            (sum(sizes[:2]) - 1, 1), (sum(sizes[:2]), 2), (sum(sizes) - 1, 2), (sum(sizes), 3),
                            (sum(sizes) + 1, 3), (1000000, 3)):
            with self.subTest(count=count):
                self.assertComesUpWith(self.crashed(count), self.synced + self.late[:many])

    def test_each_octet(self):
        ends = [sum(self.sizes()[:many]) for many in range(4)]
        for count in range(ends[3] + 2):
            many = max([at for at in range(4) if ends[at] <= count])
            self.assertComesUpWith(self.crashed(count), self.synced + self.late[:many])

    def test_again_behind_a_crash(self):
        station = self.crashed(self.sizes()[0])
        station.restart()
        self.assertEqual(write(station, ("set", "k", 5)), [(0, 4, vector(3), 4, ("set", "k", 5))])
        tell(self.two.site, station.site)
        self.assertEqual(station.keep(), [])
        self.assertEqual((station.site.latest("k"), station.site.members("k")), ([5], ["x", "y"]))
        station.disk.sync()
        station.crash(0)
        self.assertEqual(len(told_by(station.disk)), 6)
        station.restart()
        self.assertEqual((station.site.latest("k"), station.site.members("k")), ([5], ["x", "y"]))

    def test_in_the_midst_of_a_renewing(self):
        """Each count: what was there when the renewing began, or the image and what was appended behind it."""
        tell(self.one.site, self.two.site)
        write(self.one, ("inc", "k", 1))
        tell(self.two.site, self.one.site)
        self.one.keep()
        before = told_by(self.one.disk)
        self.assertEqual(self.one.forget(), 5)
        image = self.one.site.image()
        self.assertEqual([event[4] for event in image[1]], [("inc", "k", 1)])
        more = write(self.one, ("set", "k", 6))
        behind = [("image", image), ("event", more[0])]
        heads = len(frame(pack(("area", 1))) + frame(pack(("image", image))))
        octets = self.one.disk.unsynced()
        self.assertEqual(octets, heads + len(frame(pack(behind[1]))))
        for count in list(range(0, octets + 2, 7)) + [heads - 1, heads, heads + 1, octets - 1, octets, octets + 1]:
            with self.subTest(count=count):
                station = self.crashed(count)
                wanted = before if count < heads else behind[:1] if count < octets else behind
                self.assertEqual((told_by(station.disk), station.disk.unsynced()), (wanted, 0))
                station.restart()
                payloads = [pack(data) for data in wanted]
                self.assertEqual(shape(station.site), shape(site_on(payloads, 0, 2, (0, 1))))
                self.assertEqual(station.site.members("k"), ["x", "y"])
                self.assertEqual(station.site.counter("k"), 2)
                self.assertEqual(station.site.latest("k"), [6] if count >= octets else [1])

    def test_a_renewing_that_was_synced(self):
        tell(self.one.site, self.two.site)
        tell(self.two.site, self.one.site)
        self.one.keep()
        self.one.forget()
        self.one.disk.sync()
        image = self.one.site.image()
        for count in (0, 1, 1000):
            station = self.crashed(count)
            self.assertEqual(told_by(station.disk), [("image", image)])
            station.restart()
            self.assertEqual((station.site.image(), station.site.held), (image, []))

    def test_what_waits_is_lost(self):
        first, second = write(self.two, ("add", "k", 1), ("add", "k", 2))
        self.one.site.hear(1, ("news", vector(0, 4), (second,)))
        self.assertEqual(self.one.site.waiting, [second])
        self.one.disk.sync()
        self.one.crash(0)
        self.one.restart()
        self.assertEqual(self.one.site.waiting, [])


class Beginners(unittest.TestCase):
    def handed(self):
        one, two, three = stations(3, (0, 1))
        write(one, ("set", "k", 1))
        one.site.admit(2)
        meet(one.site, two.site)
        one.site.forget()
        write(one, ("set", "k", 2))
        return three, one.site.hand(2)

    def test_begin(self):
        three, image = self.handed()
        self.assertEqual(three.state, "absent")
        self.assertIsNone(three.begin(image))
        self.assertEqual((three.state, three.site.image(), three.site.number), ("up", image, 2))
        self.assertEqual((three.site.latest("k"), three.site.fresh()), ([2], []))
        self.assertEqual((told_by(three.disk), three.disk.turn(), three.disk.unsynced()), ([("image", image)], 1, 0))
        self.assertEqual(three.disk.images()[1], [])

    def test_it_crashes_and_comes_back(self):
        three, image = self.handed()
        three.begin(image)
        written = write(three, ("set", "k", 3))
        three.crash(0)
        three.restart()
        self.assertEqual((three.site.image(), three.site.latest("k")), (image, [2]))
        self.assertEqual(write(three, ("set", "k", 4))[0][:2], written[0][:2])
        three.crash(1000)
        three.restart()
        self.assertEqual((three.site.number, three.site.latest("k"), three.site.vector[2]), (2, [4], 1))


class Wiping(unittest.TestCase):
    def test_wipe(self):
        one, two = stations(2)
        write(one, ("set", "k", 1))
        write(two, ("set", "k", 1))
        one.disk.sync()
        tell(one.site, two.site)
        two.keep()
        two.forget()
        for station in (one, two):
            self.assertIsNone(station.wipe())
            self.assertEqual((station.state, shape(station.site)), ("gone", new_site(station)))
            self.assertEqual((station.disk.images(), station.disk.turn(), station.disk.unsynced()), (([], []), 0, 0))

    def test_what_is_down_or_absent(self):
        one, two = stations(2, (0,))
        write(one, ("set", "k", 1))
        one.crash(1000)
        for station in (one, two):
            station.wipe()
            self.assertEqual((station.state, station.disk.payloads()), ("gone", []))
            self.assertEqual(shape(station.site), new_site(station))


class SitesOnDisks(unittest.TestCase):
    def setUp(self):
        one, two = stations(2)
        write(two, ("add", "k", "x"))
        self.events = write(one, ("set", "k", 1), ("insert", "t", None, "A"))
        tell(two.site, one.site)
        one.keep()
        one.forget()
        self.image = one.site.image()
        self.more = write(one, ("set", "k", 2), ("insert", "t", (0, 2), "B"))
        self.one = one

    def site_on(self, *data):
        payloads = [pack(each) for each in data]
        copies = [list(payload) for payload in payloads]
        site = site_on(payloads, 0, 2, (0, 1))
        self.assertEqual(payloads, copies)
        self.assertEqual((site.fresh(), site.waiting), ([], []))
        return site

    def test_no_payloads(self):
        self.assertEqual(shape(site_on([], 3, 5, (1, 3))), shape(Site(3, 5, (1, 3))))

    def test_an_image_alone(self):
        self.assertEqual(self.site_on(("image", self.image)).image(), self.image)

    def test_events_alone(self):
        site = self.site_on(*[("event", event) for event in self.events])
        self.assertEqual((site.held, site.vector, site.text("t")), (self.events, vector(2), "A"))
        self.assertEqual((site.number, site.size, site.knowing.present), (0, 2, (0, 1)))

    def test_an_image_and_events(self):
        site = self.site_on(("image", self.image), *[("event", event) for event in self.more])
        self.assertEqual(shape(site), shape(self.one.site))
        self.assertEqual((site.latest("k"), site.members("k"), site.text("t")), ([2], ["x"], "AB"))

    def test_events_of_others_are_noted(self):
        """What comes back from the disk tells of other sites, as hearing did."""
        one, two, three = stations(3)
        two.site.retire(2, ())
        two.keep()
        tell(two.site, one.site)
        one.keep()
        site = site_on(one.disk.payloads(), 0, 3, (0, 1, 2))
        self.assertEqual((site.knowing.as_data(), site.vector), (one.site.knowing.as_data(), vector(1, 2)))
        self.assertEqual(site.knowing.over, (2,))


if __name__ == "__main__":
    unittest.main()
