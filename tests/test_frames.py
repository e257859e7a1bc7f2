"""Points [5], [19] and [20]: the check, the frame, and the frames that stand whole."""

import random
import unittest
import zlib

from partmeet.packing.frames import FRAME_HEAD, MOST_PAYLOAD, check_of, frame, whole_frames


def check_by_definition(octets):
    first, second = 1, 0
    for octet in octets:
        first = (first + octet) % 65521
        second = (second + first) % 65521
    return first + 65536 * second


def some_octets(seed, many):
    return list(random.Random(seed).randbytes(many))


class Checks(unittest.TestCase):
    def test_constants(self):
        self.assertEqual((MOST_PAYLOAD, FRAME_HEAD), (16777215, 7))

    def test_short_rows(self):
        self.assertEqual(check_of([]), 1)
        self.assertEqual(check_of([0]), 1 + 65536)
        self.assertEqual(check_of([5]), 6 + 65536 * 6)
        self.assertEqual(check_of([255]), 256 + 65536 * 256)
        self.assertEqual(check_of([1, 2]), 393220)
        self.assertEqual(check_of([2, 1]), 4 + 65536 * 7)

    def test_the_first_remainder(self):
        # 256 octets 255 make 65281 with the 1; 240 more reach the remainder's base, and 0 is left.
        self.assertEqual(check_of([255] * 256 + [239]) % 65536, 65520)
        self.assertEqual(check_of([255] * 256 + [240]) % 65536, 0)
        self.assertEqual(check_of([255] * 256 + [241]) % 65536, 1)

    def test_the_second_remainder(self):
        # Octets 0 leave the first number 1, so the second one counts them.
        self.assertEqual(check_of([0] * 65520), 1 + 65536 * 65520)
        self.assertEqual(check_of([0] * 65521), 1)
        self.assertEqual(check_of([0] * 65522), 1 + 65536)

    def test_by_definition(self):
        for many in (0, 1, 2, 3, 10, 255, 256, 257, 1000, 5552, 5553, 70000):
            for octets in (some_octets(many, many), [255] * many, [0] * many):
                self.assertEqual(check_of(octets), check_by_definition(octets))
                self.assertEqual(check_of(octets), zlib.adler32(bytes(octets)))

    def test_what_is_passed_stays(self):
        octets = some_octets(1, 100)
        before = list(octets)
        check_of(octets)
        frame(octets)
        whole_frames(octets)
        self.assertEqual(octets, before)


class Frames(unittest.TestCase):
    def test_small_ones(self):
        self.assertEqual(frame([]), [0, 0, 0, 0, 0, 0, 1])
        self.assertEqual(frame([5]), [0, 0, 1, 0, 6, 0, 6, 5])
        self.assertEqual(frame([1, 2]), [0, 0, 2, 0, 6, 0, 4, 1, 2])
        self.assertEqual(frame([255]), [0, 0, 1, 1, 0, 1, 0, 255])

    def test_lengths(self):
        lengths = {0: [0, 0, 0], 1: [0, 0, 1], 255: [0, 0, 255], 256: [0, 1, 0], 257: [0, 1, 1],
                   65535: [0, 255, 255], 65536: [1, 0, 0], 65537: [1, 0, 1], 66051: [1, 2, 3], 131072: [2, 0, 0]}
        for many, head in lengths.items():
            payload = some_octets(many, many)
            row = frame(payload)
            self.assertEqual(row[:3], head)
            self.assertEqual(row[3:7], list(zlib.adler32(bytes(payload)).to_bytes(4, "big")))
            self.assertEqual(row[7:], payload)
            self.assertEqual(whole_frames(row), ([payload], many + 7))

    def test_the_longest(self):
        row = frame([1] * MOST_PAYLOAD)
        self.assertEqual(row[:3], [255, 255, 255])
        payloads, taken = whole_frames(row + [0])
        self.assertEqual((len(payloads), len(payloads[0]), taken), (1, MOST_PAYLOAD, MOST_PAYLOAD + 7))

    def test_a_new_list(self):
        payload = [1, 2, 3]
        row = frame(payload)
        row[7] = 9
        payload.append(4)
        self.assertEqual((payload, row[7:]), ([1, 2, 3, 4], [9, 2, 3]))


class WholeFrames(unittest.TestCase):
    def test_the_example(self):
        self.assertEqual(whole_frames(frame([5]) + [0, 0, 9]), ([[5]], 8))

    def test_none(self):
        self.assertEqual(whole_frames([]), ([], 0))
        for row in ([0], [0] * 6, [0] * 7, [0] * 100, [9] * 100):
            self.assertEqual(whole_frames(row), ([], 0))

    def test_several(self):
        payloads = [[1], [], [2, 3], [], [], some_octets(3, 300)]
        row = [octet for payload in payloads for octet in frame(payload)]
        self.assertEqual(whole_frames(row), (payloads, len(row)))
        self.assertEqual(len(row), 6 * 7 + 303)

    def test_a_pair_with_new_lists(self):
        row = frame([1, 2])
        answer = whole_frames(row)
        self.assertIsInstance(answer, tuple)
        answer[0][0].append(3)
        self.assertEqual(row, frame([1, 2]))

    def test_cut_at_each_place(self):
        payloads = [[1], [], [7, 8, 9], [255] * 20]
        row, ends = [], []
        for payload in payloads:
            row += frame(payload)
            ends.append(len(row))
        for place in range(len(row) + 1):
            many = len([end for end in ends if end <= place])
            taken = ends[many - 1] if many else 0
            self.assertEqual(whole_frames(row[:place]), (payloads[:many], taken), place)

    def test_an_octet_is_changed(self):
        first, second, third = frame([4]), frame([10, 20, 30]), frame([6])
        for place in range(len(second)):
            for other in (0, 1, 2, 4, 17, 255):
                changed = list(second)
                changed[place] = other
                if changed != second:
                    self.assertEqual(whole_frames(first + changed + third), ([[4]], 8), (place, other))

    def test_a_length_that_tells_less_or_more(self):
        self.assertEqual(whole_frames([0, 0, 1] + frame([10, 20])[3:]), ([], 0))
        self.assertEqual(whole_frames([0, 0, 3] + frame([10, 20])[3:] + [30]), ([], 0))
        self.assertEqual(whole_frames([1, 0, 0] + frame([10, 20])[3:]), ([], 0))

    def test_nothing_is_looked_for_behind_what_is_not_whole(self):
        torn = frame([1, 2, 3])[:-1]
        self.assertEqual(whole_frames(torn + frame([4]) + frame([5])), ([], 0))
        self.assertEqual(whole_frames(frame([9]) + torn + frame([4])), ([[9]], 8))

    def test_octets_behind(self):
        for behind in ([0], [0, 0, 0], [0] * 7, [1] * 50, frame([1])[:-1], frame([])[:-1]):
            self.assertEqual(whole_frames(frame([3, 4]) + behind), ([[3, 4]], 9))


if __name__ == "__main__":
    unittest.main()
