"""Points [82], [83] and [89]: patches, and views behind them."""

import itertools
import random
import unittest

from partmeet.feeds.patches import apply_patch, patch_of
from partmeet.feeds.views import EMPTY_VIEW
from tests.plans import meant
from tests.test_views import view_meant
from tests.writers import meeting_events, past_of, some_events


def line(*places):
    """A line of places that are told by a site, a number and a sign: "05A" is ((0, 5), "A")."""
    return tuple([((int(place[0]), int(place[1])), place[2]) for place in places])


OLD = ((((0, 1), "a"), ((1, 2), 7)), 2, (3, "x"), line("01A", "02B", "03C"))


def text_part(old, new):
    patch = patch_of(EMPTY_VIEW[:3] + (old,), EMPTY_VIEW[:3] + (new,))
    assert len(patch) == 1 and patch[0][0] == "text" and len(patch[0]) == 3
    return patch[0][1:]


def some_views(chance):
    """Two views whose common places stand in one order, and whose common dots have the same values and signs."""
    dots = [(site, n) for site in range(3) for n in range(1, 6)]
    order = chance.sample(dots, len(dots))
    signs = {dot: chance.choice("ab") for dot in dots}
    values = {dot: chance.choice([0, 1, "a", ""]) for dot in dots}
    views = []
    for _ in range(2):
        much = chance.random()
        heads = tuple([(dot, values[dot]) for dot in dots if chance.random() < much / 2])
        members = tuple([value for value in (-3, 0, 5, "", "0", "a", "ab") if chance.random() < much])
        views.append((heads, chance.randint(-2, 2), members,
                      tuple([(dot, signs[dot]) for dot in order if chance.random() < much])))
    return views


class Patches(unittest.TestCase):
    def assertLeads(self, old, new, patch):
        """The patch is that from the old view to the new one, and the views are what it leads from and to."""
        copies = repr((old, new))
        self.assertEqual(patch_of(old, new), patch)
        self.assertEqual(apply_patch(patch, old), new)
        self.assertEqual(repr((old, new)), copies)

    def test_the_example_of_the_interface(self):
        old = ((), 2, ("x",), (((0, 1), "A"), ((0, 2), "B"), ((0, 3), "C")))
        new = ((), 5, ("x", "y"), (((0, 1), "A"), ((1, 1), "b"), ((1, 2), "d"), ((0, 3), "C")))
        self.assertLeads(old, new, (("counter", 3), ("members", (), ("y",)),
                                    ("text", ((0, 2),), (((0, 1), (1, 1), "b"), ((1, 1), (1, 2), "d")))))

    def test_equal_views(self):
        for view in (EMPTY_VIEW, OLD):
            self.assertLeads(view, view, ())

    def test_from_the_empty_view_and_to_it(self):
        self.assertLeads(EMPTY_VIEW, OLD, (
            ("register", (), (((0, 1), "a"), ((1, 2), 7))), ("counter", 2), ("members", (), (3, "x")),
            ("text", (), ((None, (0, 1), "A"), ((0, 1), (0, 2), "B"), ((0, 2), (0, 3), "C")))))
        self.assertLeads(OLD, EMPTY_VIEW, (
            ("register", ((0, 1), (1, 2)), ()), ("counter", -2), ("members", (3, "x"), ()),
            ("text", ((0, 1), (0, 2), (0, 3)), ())))

    def test_each_part_alone(self):
        heads, number, members, places = OLD
        self.assertLeads(OLD, ((((2, 1), 0),), number, members, places),
                         (("register", ((0, 1), (1, 2)), (((2, 1), 0),)),))
        self.assertLeads(OLD, (heads, -5, members, places), (("counter", -7),))
        self.assertLeads(OLD, (heads, 0, members, places), (("counter", -2),))
        self.assertLeads(OLD, (heads, number, (4, "x"), places), (("members", (3,), (4,)),))
        self.assertLeads(OLD, (heads, number, members, line("02B", "03C")), (("text", ((0, 1),), ()),))

    def test_heads_that_go_and_come(self):
        old = (tuple([((site, 3), site) for site in (0, 2, 4, 6)]),) + EMPTY_VIEW[1:]
        new = (tuple([((site, 3), site) for site in (1, 2, 5, 6, 7)]),) + EMPTY_VIEW[1:]
        self.assertLeads(old, new, (("register", ((0, 3), (4, 3)), (((1, 3), 1), ((5, 3), 5), ((7, 3), 7))),))
        # One site, and numbers of more digits; values of both kinds under one another.
        old = ((((0, 9), "a"), ((1, 2), 1)),) + EMPTY_VIEW[1:]
        new = ((((0, 10), 5), ((1, 2), 1), ((1, 10), "")),) + EMPTY_VIEW[1:]
        self.assertLeads(old, new, (("register", ((0, 9),), (((0, 10), 5), ((1, 10), ""))),))

    def test_members_of_both_kinds(self):
        old = ((), 0, (-5, 1, 10, "", "1", "b"), ())
        new = ((), 0, (-5, 2, 9, "1", "10", "a", "ba"), ())
        self.assertLeads(old, new, (("members", (1, 10, "", "b"), (2, 9, "10", "a", "ba")),))
        self.assertLeads(((), 0, (1,), ()), ((), 0, ("1",), ()), (("members", (1,), ("1",)),))

    def test_parts_that_go_or_come_alone(self):
        self.assertLeads(((), 0, (1, 2), ()), ((), 0, (1,), ()), (("members", (2,), ()),))
        self.assertLeads(((), 0, (1,), ()), ((), 0, (1, 2), ()), (("members", (), (2,)),))


class Texts(unittest.TestCase):
    OLD = line("01A", "02B", "03C")

    def assertText(self, new, gone, came, old=OLD):
        self.assertEqual(text_part(old, new), (gone, came))
        patch = (("text", gone, came),)
        self.assertEqual(apply_patch(patch, EMPTY_VIEW[:3] + (old,)), EMPTY_VIEW[:3] + (new,))

    def test_one_that_comes(self):
        self.assertText(line("11x", "01A", "02B", "03C"), (), ((None, (1, 1), "x"),))
        self.assertText(line("01A", "11x", "02B", "03C"), (), (((0, 1), (1, 1), "x"),))
        self.assertText(line("01A", "02B", "03C", "11x"), (), (((0, 3), (1, 1), "x"),))

    def test_several_in_a_row(self):
        self.assertText(line("13x", "11y", "12z", "01A", "02B", "03C"), (),
                        ((None, (1, 3), "x"), ((1, 3), (1, 1), "y"), ((1, 1), (1, 2), "z")))
        self.assertText(line("01A", "02B", "03C", "13x", "11y"), (), (((0, 3), (1, 3), "x"), ((1, 3), (1, 1), "y")))

    def test_behind_ones_that_came_and_ones_that_stay(self):
        self.assertText(line("11v", "01A", "12w", "13x", "02B", "14y", "03C", "15z"), (),
                        ((None, (1, 1), "v"), ((0, 1), (1, 2), "w"), ((1, 2), (1, 3), "x"), ((0, 2), (1, 4), "y"),
                         ((0, 3), (1, 5), "z")))

    def test_ones_that_go(self):
        self.assertText(line("02B", "03C"), ((0, 1),), ())
        self.assertText(line("01A", "03C"), ((0, 2),), ())
        self.assertText(line("01A", "02B"), ((0, 3),), ())
        self.assertText(line("02B"), ((0, 1), (0, 3)), ())

    def test_with_places_that_go_on_both_sides(self):
        self.assertText(line("11x"), ((0, 1), (0, 2), (0, 3)), ((None, (1, 1), "x"),))
        self.assertText(line("02B", "11x"), ((0, 1), (0, 3)), (((0, 2), (1, 1), "x"),))
        self.assertText(line("11x", "02B"), ((0, 1), (0, 3)), ((None, (1, 1), "x"),))
        self.assertText(line("01A", "11x", "12y", "03C"), ((0, 2),), (((0, 1), (1, 1), "x"), ((1, 1), (1, 2), "y")))

    def test_gone_in_the_order_of_the_old_line(self):
        self.assertText(line("11x"), ((2, 1), (0, 1), (1, 5)), ((None, (1, 1), "x"),), line("21A", "01B", "15C"))

    def test_equal_signs_are_different_places(self):
        self.assertText(line("01A", "11A"), ((0, 2),), (((0, 1), (1, 1), "A"),), line("01A", "02A"))


class Fewest(unittest.TestCase):
    def test_views_by_chance(self):
        chance = random.Random(1)
        for _ in range(500):
            old, new = some_views(chance)
            patch = patch_of(old, new)
            self.assertEqual(apply_patch(patch, old), new)
            self.assertEqual([part[0] for part in patch],
                             [word for word, one, other in zip(("register", "counter", "members", "text"), old, new)
                              if one != other])
            for part in patch:
                self.assertTrue(any(part[1:]))
                if part[0] == "text":
                    # No fewer can do: these are the one's alone and the other's alone.
                    gone = {dot for dot, _ in old[3]} - {dot for dot, _ in new[3]}
                    came = {dot for dot, _ in new[3]} - {dot for dot, _ in old[3]}
                    self.assertEqual((set(part[1]), len(part[1])), (gone, len(gone)))
                    self.assertEqual((sorted(dot for _, dot, _ in part[2])), sorted(came))

    def test_all_lines_of_four_places(self):
        places = line("01a", "11b", "02c", "31d")
        lines = [tuple([places[at] for at in row]) for many in range(5)
                 for row in itertools.combinations(range(4), many)]
        for old, new in itertools.product(lines, lines):
            patch = patch_of(EMPTY_VIEW[:3] + (old,), EMPTY_VIEW[:3] + (new,))
            self.assertEqual(apply_patch(patch, EMPTY_VIEW[:3] + (old,))[3], new)
            self.assertEqual(patch == (), old == new)

    def test_views_of_events(self):
        """From what any event's writer knew to what all events mean."""
        for seed in range(20):
            events = (some_events if seed % 2 else meeting_events)(seed)
            for key in ("k", "t"):
                new = view_meant(events, key)
                for one in events:
                    old = view_meant(past_of(events, one), key)
                    patch = patch_of(old, new)
                    self.assertEqual(apply_patch(patch, old), new)
        self.assertGreater(len(meant(events)[1][4]), 1)

    def test_a_long_line(self):
        old = tuple([((0, n), "a") for n in range(1, 2001)])
        new = tuple([pair for pair in old if pair[0][1] % 3 > 0])
        new = new[:500] + tuple([((1, n), "b") for n in range(1, 1001)]) + new[500:]
        self.assertEqual(apply_patch(patch_of(EMPTY_VIEW[:3] + (old,), EMPTY_VIEW[:3] + (new,)),
                                     EMPTY_VIEW[:3] + (old,))[3], new)


if __name__ == "__main__":
    unittest.main()
