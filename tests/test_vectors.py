"""Points [4], [14] and [17]: sites, dots, vectors, covers, join, least."""

import itertools
import unittest

from partmeet.data.vectors import NO_VECTOR, SITES, covers, is_dot, is_vector, joined, knows, least, raised

SAMPLES = [
    NO_VECTOR,
    (1, 0, 0, 0, 0, 0, 0, 0),
    (0, 0, 0, 0, 0, 0, 0, 1),
    (3, 1, 4, 1, 5, 9, 2, 6),
    (2, 7, 1, 8, 2, 8, 1, 8),
    (3, 7, 4, 8, 5, 9, 2, 8),
    (5, 5, 5, 5, 5, 5, 5, 5),
]


class Constants(unittest.TestCase):
    def test_constants(self):
        self.assertEqual((SITES, NO_VECTOR), (8, (0, 0, 0, 0, 0, 0, 0, 0)))


class Dots(unittest.TestCase):
    def test_sites(self):
        for site, right in ((-8, False), (-1, False), (0, True), (7, True), (8, False), (100, False)):
            self.assertIs(is_dot((site, 1)), right, site)

    def test_numbers(self):
        for n, right in ((-1, False), (0, False), (1, True), (2, True), (2000, True), (10 ** 18, True)):
            self.assertIs(is_dot((3, n)), right, n)

    def test_an_item_more_or_less(self):
        for data in ((), (0,), (0, 1, 1), (0, 1, None)):
            self.assertIs(is_dot(data), False, data)

    def test_wrong_kinds(self):
        for data in (None, True, False, 0, 1, "", "01", "ab", ((0, 1),), ((0, 1), (0, 1)), ((), ())):
            self.assertIs(is_dot(data), False, data)
        for item in (None, True, False, "0", "1", "", (), (1,), ((),)):
            self.assertIs(is_dot((item, 1)), False, item)
            self.assertIs(is_dot((1, item)), False, item)


class Vectors(unittest.TestCase):
    def test_right_ones(self):
        for vector in SAMPLES + [(0,) * 7 + (10 ** 18,)]:
            self.assertIs(is_vector(vector), True, vector)

    def test_lengths(self):
        for length in (0, 1, 7, 8, 9, 16):
            self.assertIs(is_vector((0,) * length), length == 8, length)
            self.assertIs(is_vector((2,) * length), length == 8, length)

    def test_a_wrong_number_at_each_place(self):
        for at in range(8):
            for item in (-1, -5, None, True, False, "0", "", (), (0,)):
                self.assertIs(is_vector((0,) * at + (item,) + (0,) * (7 - at)), False, (at, item))

    def test_wrong_kinds(self):
        for data in (None, True, False, 0, 8, "", "00000000", (NO_VECTOR,), (NO_VECTOR,) * 8, ((),)):
            self.assertIs(is_vector(data), False, data)


class Knows(unittest.TestCase):
    def test_the_example(self):
        one = raised(NO_VECTOR, (2, 5))
        self.assertEqual(one, (0, 0, 5, 0, 0, 0, 0, 0))
        self.assertEqual((knows(one, (2, 5)), knows(one, (2, 6)), covers(one, NO_VECTOR)), (True, False, True))

    def test_each_site(self):
        vector = (3, 1, 4, 1, 5, 9, 2, 6)
        for site in range(8):
            for n in range(1, 12):
                self.assertIs(knows(vector, (site, n)), n <= vector[site], (site, n))

    def test_nothing_is_known_of_no_site(self):
        for site in (-1, 8, 9):
            self.assertIs(knows((9,) * 8, (site, 1)), False, site)


class Covers(unittest.TestCase):
    def test_by_definition(self):
        for vector, other in itertools.product(SAMPLES, SAMPLES):
            wanted = all(other[site] <= vector[site] for site in range(8))
            self.assertIs(covers(vector, other), wanted, (vector, other))

    def test_one_less_at_each_place(self):
        vector = (3,) * 8
        for site in range(8):
            self.assertIs(covers(vector, raised(vector, (site, 3))), True)
            self.assertIs(covers(vector, raised(vector, (site, 2))), True)
            self.assertIs(covers(vector, raised(vector, (site, 4))), False)
            self.assertIs(covers(raised((9,) * 8, (site, 2)), vector), False)


class JoinsAndLeasts(unittest.TestCase):
    def test_the_example(self):
        one = raised(NO_VECTOR, (2, 5))
        self.assertEqual(least([joined(one, raised(NO_VECTOR, (0, 1))), raised(one, (2, 3))]),
                         (0, 0, 3, 0, 0, 0, 0, 0))

    def test_join(self):
        self.assertEqual(joined((3, 1, 4, 1, 5, 9, 2, 6), (2, 7, 1, 8, 2, 8, 1, 8)), (3, 7, 4, 8, 5, 9, 2, 8))
        for vector, other in itertools.product(SAMPLES, SAMPLES):
            self.assertEqual(joined(vector, other), tuple(max(vector[at], other[at]) for at in range(8)))

    def test_least(self):
        self.assertEqual(least([(3, 1, 4, 1, 5, 9, 2, 6), (2, 7, 1, 8, 2, 8, 1, 8)]), (2, 1, 1, 1, 2, 8, 1, 6))
        for rows in itertools.product(SAMPLES[2:], SAMPLES[2:], SAMPLES[2:]):
            self.assertEqual(least(list(rows)), tuple(min(row[at] for row in rows) for at in range(8)))

    def test_least_of_one(self):
        for vector in SAMPLES:
            self.assertEqual(least([vector]), vector)

    def test_the_list_stays(self):
        vectors = SAMPLES[3:6]
        least(vectors)
        self.assertEqual(vectors, SAMPLES[3:6])

    def test_they_are_vectors(self):
        for vector in (joined(SAMPLES[3], SAMPLES[4]), least(SAMPLES), raised(SAMPLES[3], (7, 1))):
            self.assertIs(is_vector(vector), True)


class Raised(unittest.TestCase):
    def test_each_site(self):
        vector = (3, 1, 4, 1, 5, 9, 2, 6)
        for site in range(8):
            self.assertEqual(raised(vector, (site, 77)), vector[:site] + (77,) + vector[site + 1:])

    def test_the_number_is_taken_also_if_it_is_less(self):
        self.assertEqual(raised((5,) * 8, (0, 2)), (2, 5, 5, 5, 5, 5, 5, 5))


if __name__ == "__main__":
    unittest.main()
