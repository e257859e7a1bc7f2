"""Points [84] and [85]: edits of texts, and cursors."""

import itertools
import random
import unittest

from partmeet.feeds.edits import apply_edits, edits_of, moved
from partmeet.feeds.views import text_in
from tests.test_patches import line, some_views

ABC = line("01A", "02B", "03C")


def cursor_behind(old, new, cursor):
    """Where a cursor stands in the new text, by the definition."""
    kept = [dot for dot, _ in new]
    behind = [dot for dot, _ in old[:cursor] if dot in kept]
    return kept.index(behind[-1]) + 1 if behind else 0


class Edits(unittest.TestCase):
    def assertEdits(self, old, new, edits):
        self.assertEqual(edits_of(old, new), edits)
        copy = list(edits)
        self.assertEqual(apply_edits(edits, text_in(old)), text_in(new))
        self.assertEqual([moved(edits, cursor) for cursor in range(len(old) + 1)],
                         [cursor_behind(old, new, cursor) for cursor in range(len(old) + 1)])
        self.assertEqual(edits, copy)

    def test_the_example_of_the_interface(self):
        old = (((0, 1), "A"), ((0, 2), "B"), ((0, 3), "C"))
        new = (((0, 1), "A"), ((1, 1), "b"), ((1, 2), "d"), ((0, 3), "C"))
        edits = edits_of(old, new)
        self.assertEqual((edits, apply_edits(edits, "ABC"), moved(edits, 2), moved(edits, 3)),
                         ([(1, 1, "bd")], "AbdC", 1, 4))

    def test_equal_lines(self):
        self.assertEdits(ABC, ABC, [])
        self.assertEdits((), (), [])

    def test_from_and_to_the_empty_line(self):
        self.assertEdits((), ABC, [(0, 0, "ABC")])
        self.assertEdits(ABC, (), [(0, 3, "")])

    def test_at_the_beginning(self):
        self.assertEdits(ABC, line("11x", "12y", "01A", "02B", "03C"), [(0, 0, "xy")])
        self.assertEdits(ABC, line("03C"), [(0, 2, "")])
        self.assertEdits(ABC, line("11x", "02B", "03C"), [(0, 1, "x")])

    def test_in_the_midst(self):
        self.assertEdits(ABC, line("01A", "11x", "02B", "03C"), [(1, 0, "x")])
        self.assertEdits(ABC, line("01A", "03C"), [(1, 1, "")])
        self.assertEdits(ABC, line("01A", "11x", "12y", "03C"), [(1, 1, "xy")])

    def test_at_the_end(self):
        self.assertEdits(ABC, line("01A", "02B", "03C", "11x"), [(3, 0, "x")])
        self.assertEdits(ABC, line("01A"), [(1, 2, "")])
        self.assertEdits(ABC, line("01A", "02B", "11x", "12y"), [(2, 1, "xy")])

    def test_neighbours(self):
        self.assertEdits(ABC, line("11x", "02B", "12y"), [(0, 1, "x"), (2, 1, "y")])
        self.assertEdits(ABC, line("11x", "01A", "12y", "02B", "13z", "03C", "14w"),
                         [(0, 0, "x"), (1, 0, "y"), (2, 0, "z"), (3, 0, "w")])
        self.assertEdits(ABC, line("02B"), [(0, 1, ""), (2, 1, "")])

    def test_nothing_stays(self):
        self.assertEdits(ABC, line("11x", "12y"), [(0, 3, "xy")])

    def test_equal_signs_are_different_places(self):
        self.assertEdits(ABC, line("01A", "11B", "03C"), [(1, 1, "B")])
        self.assertEdits(ABC, line("11A", "12B", "13C"), [(0, 3, "ABC")])
        self.assertEdits(line("01A", "02A"), line("01A", "11A", "02A"), [(1, 0, "A")])

    def test_what_came_ahead_of_what_is_gone_and_behind_it(self):
        old = line("01A", "02B", "03C", "04D")
        self.assertEdits(old, line("01A", "11x", "12y", "04D"), [(1, 2, "xy")])

    def test_lines_by_chance(self):
        chance = random.Random(3)
        for _ in range(400):
            old, new = [view[3] for view in some_views(chance)]
            edits = edits_of(old, new)
            self.assertEdits(old, new, edits)
            for at, count, signs in edits:
                self.assertTrue(count > 0 or signs != "")
            for (at, count, _), (later, _, _) in zip(edits, edits[1:]):
                self.assertGreater(later, at + count)

    def test_all_lines_of_four_places(self):
        places = line("01a", "11b", "02c", "31d")
        lines = [tuple([places[at] for at in row]) for many in range(5)
                 for row in itertools.combinations(range(4), many)]
        for old, new in itertools.product(lines, lines):
            self.assertEdits(old, new, edits_of(old, new))


class Applying(unittest.TestCase):
    def test_all_positions_are_those_ahead_of_all(self):
        self.assertEqual(apply_edits([], ""), "")
        self.assertEqual(apply_edits([], "abc"), "abc")
        self.assertEqual(apply_edits([(0, 0, "x")], ""), "x")
        self.assertEqual(apply_edits([(0, 2, ""), (3, 0, "xyz"), (5, 1, "w")], "abcdef"), "cxyzdew")
        self.assertEqual(apply_edits([(6, 0, "!")], "abcdef"), "abcdef!")
        self.assertEqual(apply_edits([(0, 6, "")], "abcdef"), "")


class Cursors(unittest.TestCase):
    EDITS = [(0, 1, "xy"), (3, 2, ""), (6, 0, "pqr"), (8, 1, "z")]

    def test_each_position(self):
        # abcdefghi becomes xybcfpqrghz.
        self.assertEqual(apply_edits(self.EDITS, "abcdefghi"), "xybcfpqrghz")
        self.assertEqual([moved(self.EDITS, cursor) for cursor in range(10)], [0, 0, 3, 4, 4, 4, 5, 9, 10, 10])

    def test_no_edits(self):
        self.assertEqual([moved([], cursor) for cursor in range(4)], [0, 1, 2, 3])

    def test_ahead_of_all(self):
        for edits in ([(0, 0, "x")], [(0, 2, "x")], [(0, 1, "")], [(1, 1, "x")]):
            self.assertEqual(moved(edits, 0), 0)

    def test_signs_that_come_behind_it_and_ahead_of_its_sign(self):
        self.assertEqual(moved([(2, 0, "xy")], 2), 2)
        self.assertEqual(moved([(1, 0, "xy")], 2), 4)
        self.assertEqual(moved([(2, 1, "xy")], 2), 2)
        self.assertEqual(moved([(0, 1, "xy")], 2), 3)

    def test_its_sign_is_gone(self):
        self.assertEqual(moved([(1, 1, "xy")], 2), 1)
        self.assertEqual(moved([(1, 2, "xy")], 2), 1)
        self.assertEqual(moved([(1, 2, "xy")], 3), 1)
        self.assertEqual(moved([(0, 2, "xy")], 2), 0)
        self.assertEqual(moved([(0, 0, "w"), (1, 1, "xy")], 2), 2)
        self.assertEqual(moved([(0, 0, "w"), (2, 1, "xy")], 3), 3)


if __name__ == "__main__":
    unittest.main()
