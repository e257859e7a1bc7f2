"""Points [5], [36] and [37]: the answers of a base and held events."""

import unittest

from partmeet.base.answers import counter, heads, latest, members, places, text
from partmeet.base.base import Base, base_of
from partmeet.meaning.texts import places_of, text_of
from partmeet.meaning.values import counter_of, heads_of, members_of, register_of
from tests.writers import KEYS, event, orders_of, some_events

# What is held has seen the base: four events of site 0, three of site 1.
SEEN = (4, 3)
VECTOR = SEEN + (0,) * 6


def base_with(registers=(), counters=(), sets=(), texts=()):
    return base_of((VECTOR, 5, tuple(registers), tuple(counters), tuple(sets), tuple(texts)))


def held_row(*ops):
    """Events of site 2, one behind another."""
    return [event(2, n, SEEN + (n - 1,), 5 + n, op) for n, op in enumerate(ops, 1)]


class AnswerTest(unittest.TestCase):
    def assertAnswers(self, base, held, key, pairs=(), total=0, values=(), line=()):
        """`pairs` are those of the heads, `line` those of the shown places, for the events in several orders."""
        data = base.as_data()
        for order in orders_of(held):
            before = list(order)
            self.assertEqual(heads(base, order, key), [dot for dot, value in pairs])
            self.assertEqual(latest(base, order, key), [value for dot, value in pairs])
            self.assertEqual(counter(base, order, key), total)
            self.assertEqual(members(base, order, key), list(values))
            self.assertEqual(places(base, order, key), [dot for dot, sign in line])
            self.assertEqual(text(base, order, key), "".join(sign for dot, sign in line))
            self.assertEqual(order, before)
        self.assertEqual(base.as_data(), data)


class WhoTells(AnswerTest):
    BASE = base_with([("k", (((0, 1), 1), ((1, 2), "b")))], [("k", 5)], [("k", (1, "x"))],
                     [("k", (((1, 1), "a"), ((0, 2), "b")))])
    HELD = held_row(("set", "h", 7), ("inc", "h", 3), ("add", "h", 0), ("insert", "h", None, "z"), ("admit", 3))

    def test_nobody(self):
        for base in (Base(), self.BASE):
            for held in ([], self.HELD):
                self.assertAnswers(base, held, "none")
        self.assertAnswers(Base(), [], "k")

    def test_the_base_alone(self):
        for held in ([], self.HELD):
            self.assertAnswers(self.BASE, held, "k", [((0, 1), 1), ((1, 2), "b")], 5, [1, "x"],
                               [((1, 1), "a"), ((0, 2), "b")])

    def test_the_held_events_alone(self):
        for base in (Base(), self.BASE):
            self.assertAnswers(base, self.HELD, "h", [((2, 1), 7)], 3, [0], [((2, 4), "z")])

    def test_both(self):
        held = held_row(("set", "k", 7), ("inc", "k", -8), ("add", "k", 0), ("insert", "k", (1, 1), "z"))
        self.assertAnswers(self.BASE, held, "k", [((2, 1), 7)], -3, [0, 1, "x"],
                           [((1, 1), "a"), ((2, 4), "z"), ((0, 2), "b")])

    def test_what_is_returned_is_new(self):
        data = self.BASE.as_data()
        for held in ([], self.HELD):
            for answer in (heads, latest, members, places):
                answer(self.BASE, held, "k").append("more")
        self.assertEqual(self.BASE.as_data(), data)


class Registers(AnswerTest):
    BASE = base_with([("k", (((0, 1), 1), ((1, 2), 2)))])

    def test_a_held_set_replaces_all_heads(self):
        self.assertAnswers(self.BASE, held_row(("set", "k", 1)), "k", [((2, 1), 1)])
        self.assertAnswers(self.BASE, held_row(("set", "k", 1), ("set", "k", 3)), "k", [((2, 2), 3)])
        self.assertAnswers(self.BASE, held_row(("set", "j", 1)), "k", [((0, 1), 1), ((1, 2), 2)])

    def test_held_ones_that_do_not_know_of_one_another(self):
        held = [event(3, 1, SEEN, 6, ("set", "k", "c")), event(0, 5, SEEN, 6, ("set", "k", "a"))]
        self.assertAnswers(self.BASE, held, "k", [((0, 5), "a"), ((3, 1), "c")])
        held.append(event(1, 4, (4, 3, 0, 1), 7, ("set", "k", "b")))
        self.assertAnswers(self.BASE, held, "k", [((0, 5), "a"), ((1, 4), "b")])


class Counters(AnswerTest):
    def test_sums(self):
        base = base_with(counters=[("k", 10 ** 18)])
        self.assertAnswers(base, held_row(("inc", "k", 10 ** 9), ("inc", "k", 1)), "k", total=10 ** 18 + 10 ** 9 + 1)
        self.assertAnswers(base_with(counters=[("k", -2)]), held_row(("inc", "k", 2)), "k", total=0)


class Members(AnswerTest):
    BASE = base_with(sets=[("k", (1, 2, "a"))])

    def test_removes_of_members_of_the_base(self):
        self.assertAnswers(self.BASE, held_row(("remove", "k", 2)), "k", values=[1, "a"])
        self.assertAnswers(self.BASE, held_row(("remove", "k", 2), ("remove", "k", "a"), ("remove", "k", 1)), "k")
        self.assertAnswers(self.BASE, held_row(("remove", "k", 3), ("remove", "k", "1"), ("remove", "j", 1)), "k",
                           values=[1, 2, "a"])

    def test_removed_and_added_again(self):
        self.assertAnswers(self.BASE, held_row(("remove", "k", 1), ("add", "k", 1)), "k", values=[1, 2, "a"])
        self.assertAnswers(self.BASE, held_row(("add", "k", 1), ("remove", "k", 1)), "k", values=[2, "a"])

    def test_added_without_having_heard_of_the_remove(self):
        held = [event(2, 1, SEEN, 6, ("remove", "k", 1)), event(3, 1, SEEN, 6, ("add", "k", 1))]
        self.assertAnswers(self.BASE, held, "k", values=[1, 2, "a"])

    def test_members_of_both_are_listed_once_in_order(self):
        held = held_row(("add", "k", "a"), ("add", "k", 0), ("add", "k", "A"), ("add", "k", 2), ("add", "k", 3))
        self.assertAnswers(self.BASE, held, "k", values=[0, 1, 2, 3, "A", "a"])


class Texts(AnswerTest):
    A, B, C = ((1, 1), "a"), ((0, 2), "b"), ((0, 1), "c")
    BASE = base_with(texts=[("k", (A, B, C))])

    def assertLine(self, held, *line):
        self.assertAnswers(self.BASE, held, "k", line=line)

    def test_below_none(self):
        self.assertLine(held_row(("insert", "k", None, "x")), ((2, 1), "x"), self.A, self.B, self.C)
        self.assertLine(held_row(("insert", "k", None, "x"), ("insert", "k", None, "y")),
                        ((2, 2), "y"), ((2, 1), "x"), self.A, self.B, self.C)

    def test_below_places_of_the_base(self):
        x = ((2, 1), "x")
        self.assertLine(held_row(("insert", "k", (1, 1), "x")), self.A, x, self.B, self.C)
        self.assertLine(held_row(("insert", "k", (0, 2), "x")), self.A, self.B, x, self.C)
        self.assertLine(held_row(("insert", "k", (0, 1), "x")), self.A, self.B, self.C, x)

    def test_below_a_held_one(self):
        held = held_row(("insert", "k", (0, 2), "x"), ("insert", "k", (2, 1), "y"), ("insert", "k", (0, 2), "z"),
                        ("insert", "k", (2, 1), "u"))
        self.assertLine(held, self.A, self.B, ((2, 3), "z"), ((2, 1), "x"), ((2, 4), "u"), ((2, 2), "y"), self.C)

    def test_heights_and_sites(self):
        def at(after):
            return [event(2, 1, SEEN, 6, ("insert", "k", after, "x")),
                    event(7, 1, SEEN, 6, ("insert", "k", after, "y")),
                    event(0, 5, SEEN, 6, ("insert", "k", after, "z")),
                    event(0, 6, (5, 3), 7, ("insert", "k", after, "u"))]
        row = (((0, 6), "u"), ((7, 1), "y"), ((2, 1), "x"), ((0, 5), "z"))
        self.assertLine(at(None), *row, self.A, self.B, self.C)
        self.assertLine(at((1, 1)), self.A, *row, self.B, self.C)
        self.assertLine(at((0, 1)), self.A, self.B, self.C, *row)

    def test_several_at_once(self):
        held = held_row(("insert", "k", (0, 1), "x"), ("insert", "k", None, "y"), ("insert", "k", (1, 1), "z"),
                        ("insert", "k", (2, 2), "u"))
        self.assertLine(held, ((2, 2), "y"), ((2, 4), "u"), self.A, ((2, 3), "z"), self.B, self.C, ((2, 1), "x"))

    def test_erases_of_places_of_the_base(self):
        self.assertLine(held_row(("erase", "k", (0, 2))), self.A, self.C)
        self.assertLine(held_row(("erase", "k", (1, 1)), ("erase", "k", (0, 1)), ("erase", "k", (0, 2))))
        self.assertLine(held_row(("erase", "j", (0, 2))), self.A, self.B, self.C)

    def test_an_erase_leaves_what_hangs_below(self):
        held = held_row(("insert", "k", (0, 2), "x"), ("erase", "k", (0, 2)))
        self.assertLine(held, self.A, ((2, 1), "x"), self.C)
        held = held_row(("insert", "k", (0, 2), "x"), ("insert", "k", (2, 1), "y"), ("erase", "k", (2, 1)))
        self.assertLine(held, self.A, self.B, ((2, 2), "y"), self.C)
        held = held_row(("insert", "k", None, "x"), ("insert", "k", (2, 1), "y"), ("erase", "k", (2, 1)),
                        ("erase", "k", (2, 2)))
        self.assertLine(held, self.A, self.B, self.C)

    def test_a_key_without_places_in_the_base(self):
        held = held_row(("insert", "j", None, "x"), ("insert", "j", (2, 1), "y"))
        self.assertAnswers(self.BASE, held, "j", line=[((2, 1), "x"), ((2, 2), "y")])

    def test_a_long_row_of_held_places(self):
        held = held_row(("insert", "k", (0, 2), "x"), *[("insert", "k", (2, n), "y") for n in range(1, 2000)])
        self.assertEqual(text(self.BASE, held, "k"), "abx" + "y" * 1999 + "c")


class WithoutABase(unittest.TestCase):
    def test_what_events_mean(self):
        for seed in range(30):
            events = some_events(seed)
            for key in KEYS + ("none",):
                for order in orders_of(events, seed, 1):
                    self.assertEqual(heads(Base(), order, key), heads_of(events, key))
                    self.assertEqual(latest(Base(), order, key), register_of(events, key))
                    self.assertEqual(counter(Base(), order, key), counter_of(events, key))
                    self.assertEqual(members(Base(), order, key), members_of(events, key))
                    self.assertEqual(places(Base(), order, key), places_of(events, key))
                    self.assertEqual(text(Base(), order, key), text_of(events, key))


if __name__ == "__main__":
    unittest.main()
