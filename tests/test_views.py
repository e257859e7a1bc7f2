"""Point [81]: views."""

import unittest

from partmeet.base.base import Base
from partmeet.base.folding import folded
from partmeet.feeds.views import EMPTY_VIEW, text_in, view_of
from partmeet.meaning.texts import places_of, text_of
from partmeet.meaning.values import counter_of, heads_of, members_of, register_of
from tests.plans import meant
from tests.sites import vector
from tests.writers import cuts_of, event, orders_of, some_events

EVENTS = [event(0, 1, (), 1, ("set", "k", "b")), event(0, 2, (1,), 2, ("inc", "k", 5)),
          event(0, 3, (2,), 3, ("add", "k", "x")), event(0, 4, (3,), 4, ("insert", "k", None, "A")),
          event(0, 5, (4,), 5, ("insert", "k", (0, 4), "B"))]
VIEW = ((((0, 1), "b"),), 5, ("x",), (((0, 4), "A"), ((0, 5), "B")))


def view_meant(events, key):
    """The view that all events mean, by the first definition."""
    return (tuple(zip(heads_of(events, key), register_of(events, key))), counter_of(events, key),
            tuple(members_of(events, key)), tuple(zip(places_of(events, key), text_of(events, key))))


class Views(unittest.TestCase):
    def test_the_empty_view(self):
        self.assertEqual(EMPTY_VIEW, ((), 0, (), ()))
        self.assertEqual(view_of(Base(), [], "k"), EMPTY_VIEW)
        self.assertEqual(view_of(Base(), EVENTS, "none"), EMPTY_VIEW)

    def test_held_events_alone(self):
        for order in orders_of(EVENTS):
            self.assertEqual(view_of(Base(), order, "k"), VIEW)

    def test_the_base_alone(self):
        base, left = folded(Base(), EVENTS, vector(5))
        self.assertEqual((left, view_of(base, left, "k"), view_of(base, left, "t")), ([], VIEW, EMPTY_VIEW))

    def test_both(self):
        for n in range(6):
            base, left = folded(Base(), EVENTS, vector(n))
            self.assertEqual((len(left), view_of(base, left, "k")), (5 - n, VIEW))

    def test_each_part_by_base_and_held_events(self):
        base, _ = folded(Base(), EVENTS, vector(5))
        held = [event(1, 1, (5,), 6, ("set", "k", 2)), event(2, 1, (5,), 6, ("set", "k", "c")),
                event(1, 2, (5, 1), 7, ("inc", "k", -5)), event(1, 3, (5, 2), 8, ("add", "k", 7)),
                event(1, 4, (5, 3), 9, ("remove", "k", "x")), event(1, 5, (5, 4), 10, ("erase", "k", (0, 5))),
                event(1, 6, (5, 5), 11, ("insert", "k", (0, 4), "C"))]
        self.assertEqual(view_of(base, held, "k"),
                         ((((1, 1), 2), ((2, 1), "c")), 0, (7,), (((0, 4), "A"), ((1, 6), "C"))))

    def test_kinds(self):
        base, left = folded(Base(), EVENTS, vector(3))
        heads, number, members, line = view_of(base, left, "k")
        self.assertEqual([heads.__class__, number.__class__, members.__class__, line.__class__],
                         [tuple, int, tuple, tuple])
        self.assertEqual({pair.__class__ for pair in heads + line}, {tuple})

    def test_views_are_what_all_events_mean(self):
        for seed in range(15):
            events = some_events(seed, steps=30, sites=3)
            for cut in cuts_of(events):
                base, left = folded(Base(), events, cut)
                before = base.as_data(), list(left)
                for key in ("k", "t"):
                    self.assertEqual(view_of(base, left, key), view_meant(events, key))
                self.assertEqual((base.as_data(), left), before)

    def test_what_is_told_besides(self):
        """A view tells all answers of a key."""
        events = some_events(3)
        heads, number, members, line = view_of(Base(), events, "k")
        self.assertEqual([[dot for dot, value in heads], [value for dot, value in heads], number, list(members),
                          [dot for dot, sign in line], text_in(line)], meant(events)[0])


class Texts(unittest.TestCase):
    def test_text_in(self):
        self.assertEqual(text_in(()), "")
        self.assertEqual(text_in((((3, 1), "A"),)), "A")
        self.assertEqual(text_in((((3, 1), "A"), ((0, 2), " "), ((7, 10), "~"), ((0, 1), "A"))), "A ~A")


if __name__ == "__main__":
    unittest.main()
