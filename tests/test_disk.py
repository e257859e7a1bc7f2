"""Points [5], [21] to [26]: the disk."""

import random
import unittest

from partmeet.disk.disk import Disk
from partmeet.packing.frames import frame
from partmeet.packing.lines import pack

ALL = 1000000


def head(turn):
    return frame(pack(("area", turn)))


def framed(*payloads):
    return [octet for payload in payloads for octet in frame(payload)]


class DiskTest(unittest.TestCase):
    def assertHas(self, disk, payloads, turn, unsynced, other=()):
        """The disk has these payloads and this turn in its current area, and these octets in the other one."""
        area = (head(turn) if turn else []) + framed(*payloads)
        self.assertEqual(disk.payloads(), list(payloads))
        self.assertEqual(disk.turn(), turn)
        self.assertEqual(disk.unsynced(), unsynced)
        self.assertEqual(disk.images(), (area, list(other)))


class Appending(DiskTest):
    def test_an_empty_disk(self):
        disk = Disk()
        self.assertHas(disk, [], 0, 0)
        self.assertIsNone(disk.sync())
        self.assertIsNone(disk.crash(0))
        self.assertHas(disk, [], 0, 0)

    def test_appending_and_syncing(self):
        disk = Disk()
        self.assertIsNone(disk.append([1]))
        self.assertHas(disk, [[1]], 0, 8)
        disk.append([2, 3])
        self.assertHas(disk, [[1], [2, 3]], 0, 17)
        disk.sync()
        self.assertHas(disk, [[1], [2, 3]], 0, 0)
        disk.append([])
        self.assertHas(disk, [[1], [2, 3], []], 0, 7)
        disk.sync()
        disk.sync()
        self.assertHas(disk, [[1], [2, 3], []], 0, 0)

    def test_the_payload_is_not_kept(self):
        disk = Disk()
        first, second = [1], [2]
        disk.append(first)
        disk.renew(second)
        first.append(9)
        second.append(9)
        self.assertHas(disk, [[2]], 1, len(head(1)) + 8, framed([1]))

    def test_what_is_returned_is_new(self):
        disk = Disk()
        disk.append([1])
        disk.renew([2])
        disk.payloads().append([3])
        disk.payloads()[0].append(3)
        for area in disk.images():
            area.append(3)
        self.assertHas(disk, [[2]], 1, len(head(1)) + 8, framed([1]))


class Renewing(DiskTest):
    def test_the_first_time(self):
        disk = Disk()
        disk.append([1])
        self.assertIsNone(disk.renew([9]))
        self.assertHas(disk, [[9]], 1, len(head(1)) + 8, framed([1]))
        disk.append([3])
        self.assertHas(disk, [[9], [3]], 1, len(head(1)) + 16, framed([1]))
        disk.sync()
        self.assertHas(disk, [[9], [3]], 1, 0, framed([1]))

    def test_an_empty_disk(self):
        disk = Disk()
        disk.renew([])
        self.assertHas(disk, [[]], 1, len(head(1)) + 7)

    def test_one_behind_another(self):
        disk = Disk()
        disk.append([1])
        disk.renew([2])
        disk.append([3])
        disk.renew([4])
        self.assertHas(disk, [[4]], 2, len(head(2)) + 8, head(1) + framed([2], [3]))
        disk.renew([5])
        self.assertHas(disk, [[5]], 3, len(head(3)) + 8, head(2) + framed([4]))

    def test_it_syncs_what_was_there(self):
        disk = Disk()
        disk.append([1])
        disk.renew([2])
        disk.crash(0)
        self.assertHas(disk, [[1]], 0, 0)

    def test_many_turns(self):
        disk = Disk()
        for turn in range(1, 13):
            disk.renew([turn])
            self.assertEqual(disk.turn(), turn)
        disk.crash(ALL)
        self.assertHas(disk, [[12]], 12, 0)


class Crashes(DiskTest):
    def test_counts(self):
        ends = [0, 8, 18, 25]
        for count in range(40):
            disk = Disk()
            disk.append([0])
            disk.sync()
            for payload in ([1], [1, 2, 3], []):
                disk.append(payload)
            self.assertIsNone(disk.crash(count))
            many = len([end for end in ends if end <= count])
            self.assertHas(disk, [[0], [1], [1, 2, 3], []][:many], 0, 0)

    def test_what_is_synced_stays(self):
        disk = Disk()
        disk.append([1])
        disk.append([2])
        disk.sync()
        disk.crash(0)
        self.assertHas(disk, [[1], [2]], 0, 0)
        disk.crash(ALL)
        self.assertHas(disk, [[1], [2]], 0, 0)

    def test_a_disk_that_was_never_synced(self):
        disk = Disk()
        disk.append([1])
        disk.crash(7)
        self.assertHas(disk, [], 0, 0)

    def test_appending_behind_a_crash(self):
        disk = Disk()
        disk.append([1])
        disk.append([2])
        disk.crash(12)
        disk.append([3])
        self.assertHas(disk, [[1], [3]], 0, 8)
        disk.crash(8)
        self.assertHas(disk, [[1], [3]], 0, 0)
        disk.append([4])
        disk.crash(7)
        self.assertHas(disk, [[1], [3]], 0, 0)

    def test_the_other_area_is_empty_behind_it(self):
        disk = Disk()
        disk.append([1])
        disk.renew([2])
        disk.sync()
        disk.crash(0)
        self.assertHas(disk, [[2]], 1, 0)
        disk.renew([3])
        self.assertHas(disk, [[3]], 2, len(head(2)) + 8, head(1) + framed([2]))
        disk.crash(0)
        self.assertHas(disk, [[2]], 1, 0)


class TornRenewings(DiskTest):
    def test_the_first_renewing_at_each_place(self):
        whole = len(head(1)) + 9
        for count in range(whole + 5):
            disk = Disk()
            disk.append([1])
            disk.append([2])
            disk.renew([8, 9])
            disk.crash(count)
            if count < whole:
                self.assertHas(disk, [[1], [2]], 0, 0)
            else:
                self.assertHas(disk, [[8, 9]], 1, 0)

    def test_what_was_appended_behind_it(self):
        whole = len(head(1)) + 8
        for count in range(whole, whole + 20):
            disk = Disk()
            disk.append([1])
            disk.renew([8])
            disk.append([2])
            disk.crash(count)
            self.assertHas(disk, [[8], [2]] if count >= whole + 8 else [[8]], 1, 0)

    def test_the_second_renewing_at_each_place(self):
        whole = len(head(2)) + 8
        for count in range(whole + 5):
            disk = Disk()
            disk.append([1])
            disk.renew([2])
            disk.append([3])
            disk.renew([4])
            disk.crash(count)
            if count < whole:
                self.assertHas(disk, [[2], [3]], 1, 0)
            else:
                self.assertHas(disk, [[4]], 2, 0)

    def test_turns_are_compared_as_numbers(self):
        disk = Disk()
        for turn in range(1, 11):
            disk.renew([turn])
        disk.crash(ALL)
        self.assertHas(disk, [[10]], 10, 0)
        disk = Disk()
        for turn in range(1, 11):
            disk.renew([turn])
        disk.crash(3)
        self.assertHas(disk, [[9]], 9, 0)

    def test_behind_a_torn_one(self):
        disk = Disk()
        disk.append([1])
        disk.renew([2])
        disk.crash(3)
        disk.append([3])
        self.assertHas(disk, [[1], [3]], 0, 8)
        disk.renew([4])
        self.assertHas(disk, [[4]], 1, len(head(1)) + 8, framed([1], [3]))
        disk.crash(ALL)
        self.assertHas(disk, [[4]], 1, 0)

    def test_behind_a_torn_second_one_the_turn_goes_on(self):
        disk = Disk()
        disk.renew([1])
        disk.renew([2])
        disk.crash(len(head(2)))
        self.assertHas(disk, [[1]], 1, 0)
        disk.renew([3])
        self.assertHas(disk, [[3]], 2, len(head(2)) + 8, head(1) + framed([1]))

    def test_a_torn_one_on_an_empty_disk(self):
        for count in (0, 5, len(head(1)), len(head(1)) + 7):
            disk = Disk()
            disk.renew([1])
            disk.crash(count)
            self.assertHas(disk, [], 0, 0)
            disk.append([2])
            self.assertHas(disk, [[2]], 0, 8)


class NearlyHeads(DiskTest):
    def test_first_payloads_that_are_no_heads(self):
        for data in (("area",), ("area", 0), ("area", -1), ("area", "1"), ("area", None), ("area", (1,)), ("era", 1),
                     ("area", 1, 1), "area", 7, None, (), (1, "area")):
            disk = Disk()
            disk.append(pack(data))
            disk.append([1])
            disk.crash(ALL)
            self.assertHas(disk, [pack(data), [1]], 0, 0)
            disk.renew([2])
            disk.crash(len(head(1)))
            self.assertHas(disk, [pack(data), [1]], 0, 0)

    def test_first_payloads_that_are_no_packs(self):
        for payload in ([], [255], [0, 1, 2], pack(("area", 5))[:-1], pack(("area", 5)) + [0]):
            disk = Disk()
            disk.append(payload)
            disk.append([1])
            disk.crash(ALL)
            self.assertHas(disk, [payload, [1]], 0, 0)


class Forks(DiskTest):
    def test_the_example(self):
        disk = Disk()
        disk.append([1])
        disk.sync()
        disk.append([2])
        disk.renew([9])
        disk.append([3])
        twin = disk.fork()
        disk.crash(20)
        self.assertEqual(disk.payloads(), [[1], [2]])
        twin.crash(1000)
        self.assertEqual(twin.payloads(), [[9], [3]])

    def test_one_state(self):
        disk = Disk()
        for call in (lambda: disk.append([1]), disk.sync, lambda: disk.append([2]), lambda: disk.renew([3]),
                     lambda: disk.append([4]), lambda: disk.renew([5]), lambda: disk.crash(3)):
            call()
            twin = disk.fork()
            self.assertIsInstance(twin, Disk)
            self.assertEqual(state_of(twin), state_of(disk))
            twin.crash(9)
            other = disk.fork()
            other.crash(9)
            self.assertEqual(state_of(twin), state_of(other))

    def test_each_goes_its_own_way(self):
        for change in (lambda disk: disk.append([7]), lambda disk: disk.sync(), lambda disk: disk.renew([7]),
                       lambda disk: disk.crash(0)):
            disk = Disk()
            disk.append([1])
            disk.renew([2])
            disk.append([3])
            before = state_of(disk)
            twin = disk.fork()
            change(twin)
            self.assertNotEqual(state_of(twin), before)
            self.assertEqual(state_of(disk), before)
            twin = disk.fork()
            change(disk)
            self.assertEqual(state_of(twin), before)


def state_of(disk):
    return disk.payloads(), disk.turn(), disk.unsynced(), disk.images()


class Guaranteed(DiskTest):
    def test_payloads_behind_a_crash(self):
        """Point [26], for many rows of calls."""
        for seed in range(300):
            chance = random.Random(seed)
            disk = Disk()
            payloads, synced, older = [], 0, None
            for step in range(40):
                word = chance.choice(["append", "append", "append", "sync", "renew", "crash"])
                payload = [step] * chance.randrange(4)
                if word == "append":
                    disk.append(payload)
                    payloads.append(payload)
                elif word == "sync":
                    disk.sync()
                    synced, older = len(payloads), None
                elif word == "renew":
                    older = list(payloads)
                    disk.renew(payload)
                    payloads, synced = [payload], 0
                else:
                    disk.crash(chance.choice([0, 1, 5, 20, 21, 22, 23, 30, 50, ALL]))
                    found = disk.payloads()
                    begins = found == payloads[:len(found)] and len(found) >= max(synced, 1 if older is not None else 0)
                    self.assertTrue(begins or found == older, seed)
                    payloads, synced, older = found, len(found), None
                self.assertEqual(disk.payloads(), payloads)


if __name__ == "__main__":
    unittest.main()
