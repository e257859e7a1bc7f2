"""Points [5], [27] to [30], and what [33] says of "set", "inc", "add" and "remove"."""

import unittest

from partmeet.data.keys import value_order
from partmeet.meaning.values import counter_of, heads_of, members_of, register_of
from tests.writers import KEYS, VALUES, Writer, event, has, orders_of, past_of, some_events

ANSWERS = (heads_of, register_of, counter_of, members_of)


def heads_by_definition(events, key):
    sets = [e for e in events if e[4][:2] == ("set", key)]
    return sorted([e[:2] for e in sets if not any(has(other[2], e[:2]) for other in sets if other != e)])


def members_by_definition(events, key):
    found = []
    for e in events:
        if e[4][:2] == ("add", key):
            removes = [other for other in events if other[4] == ("remove", key, e[4][2])]
            if not any(has(other[2], e[:2]) for other in removes):
                found.append(e[4][2])
    return value_order(found)


class MeaningTest(unittest.TestCase):
    def assertMeans(self, events, key, heads=(), values=(), counter=0, members=()):
        for order in orders_of(events):
            before = list(order)
            self.assertEqual(heads_of(order, key), list(heads))
            self.assertEqual(register_of(order, key), list(values))
            self.assertEqual(counter_of(order, key), counter)
            self.assertEqual(members_of(order, key), list(members))
            self.assertEqual(order, before)


class Nothing(MeaningTest):
    def test_no_events(self):
        self.assertMeans([], "k")

    def test_a_key_that_nothing_tells_of(self):
        one = Writer(0)
        for op in (("set", "k", 1), ("inc", "k", 2), ("add", "k", 3), ("remove", "k", 4), ("insert", "k", None, "a"),
                   ("admit", 3), ("ack", (1,))):
            one.write(op)
        self.assertMeans(one.known, "other")
        self.assertMeans(one.known, "")
        self.assertMeans(one.known, "k", heads=[(0, 1)], values=[1], counter=2, members=[3])

    def test_texts_mean_nothing_here(self):
        one = Writer(0)
        one.write(("insert", "k", None, "a"))
        one.write(("erase", "k", (0, 1)))
        self.assertMeans(one.known, "k")


class Registers(MeaningTest):
    def test_one_after_another(self):
        one = Writer(0)
        one.write(("set", "k", 1))
        one.write(("set", "k", "two"))
        self.assertMeans(one.known, "k", heads=[(0, 2)], values=["two"])

    def test_two_who_do_not_know_of_one_another_until_one_does(self):
        one, two = Writer(0), Writer(1)
        two.write(("set", "k", "b"))
        one.write(("set", "k", "z"))
        one.hear(two)
        self.assertMeans(one.known, "k", heads=[(0, 1), (1, 1)], values=["z", "b"])
        one.write(("set", "k", 0))
        self.assertMeans(one.known, "k", heads=[(0, 2)], values=[0])

    def test_one_value_twice(self):
        events = [event(site, 1, (), 1, ("set", "k", 5)) for site in (6, 0, 3)]
        self.assertMeans(events, "k", heads=[(0, 1), (3, 1), (6, 1)], values=[5, 5, 5])

    def test_dots_are_ordered_by_site_and_then_number(self):
        events = [event(0, n, (n - 1,), n, ("inc", "x", 0)) for n in range(1, 11)]
        events += [event(0, 11, (10,), 11, ("set", "k", "late")), event(1, 1, (), 1, ("inc", "x", 0)),
                   event(1, 2, (0, 1), 2, ("set", "k", "early"))]
        self.assertMeans(events, "k", heads=[(0, 11), (1, 2)], values=["late", "early"])

    def test_a_set_of_another_key_and_other_words_replace_nothing(self):
        one = Writer(0)
        one.write(("set", "k", 1))
        for op in (("set", "j", 2), ("inc", "k", 1), ("add", "k", 2), ("remove", "k", 1), ("insert", "k", None, "a")):
            one.write(op)
        self.assertEqual(heads_of(one.known, "k"), [(0, 1)])
        self.assertEqual(register_of(one.known, "k"), [1])

    def test_who_knows_one_of_two_replaces_that_one(self):
        events = [event(0, 1, (), 1, ("set", "k", "a")), event(1, 1, (), 1, ("set", "k", "b")),
                  event(2, 1, (0, 1), 2, ("set", "k", "c"))]
        self.assertMeans(events, "k", heads=[(0, 1), (2, 1)], values=["a", "c"])


class Counters(MeaningTest):
    def test_sums(self):
        one, two = Writer(0), Writer(1)
        one.write(("inc", "k", 10 ** 9))
        one.write(("inc", "k", 10 ** 9))
        two.write(("inc", "k", -3))
        two.write(("inc", "j", 7))
        self.assertMeans(one.known + two.known, "k", counter=2 * 10 ** 9 - 3)
        self.assertMeans(one.known + two.known, "j", counter=7)

    def test_below_zero_and_zero(self):
        one = Writer(0)
        one.write(("inc", "k", -5))
        self.assertMeans(one.known, "k", counter=-5)
        one.write(("inc", "k", 5))
        self.assertMeans(one.known, "k", counter=0)
        one.write(("inc", "k", 0))
        self.assertMeans(one.known, "k", counter=0)

    def test_one_number_twice_counts_twice(self):
        events = [event(0, 1, (), 1, ("inc", "k", 4)), event(1, 1, (), 1, ("inc", "k", 4))]
        self.assertMeans(events, "k", counter=8)


class Members(MeaningTest):
    def test_in_the_order_of_values_each_once(self):
        one, two = Writer(0), Writer(1)
        for value in ("b", 10, "ab", 9, "a", "b", -1):
            one.write(("add", "k", value))
        two.write(("add", "k", "a"))
        self.assertMeans(one.known + two.known, "k", members=[-1, 9, 10, "a", "ab", "b"])

    def test_removed_and_added_again(self):
        one = Writer(0)
        one.write(("add", "k", 1))
        one.write(("remove", "k", 1))
        self.assertMeans(one.known, "k")
        one.write(("add", "k", 1))
        self.assertMeans(one.known, "k", members=[1])

    def test_an_add_and_a_remove_that_do_not_know_one_another(self):
        events = [event(0, 1, (), 1, ("add", "k", 1)), event(1, 1, (), 1, ("remove", "k", 1))]
        self.assertMeans(events, "k", members=[1])

    def test_a_remove_that_knows_some_adds_and_not_others(self):
        events = [event(0, 1, (), 1, ("add", "k", 1)), event(1, 1, (), 1, ("add", "k", 1)),
                  event(2, 1, (1,), 2, ("remove", "k", 1))]
        self.assertMeans(events, "k", members=[1])
        events += [event(3, 1, (0, 1), 2, ("remove", "k", 1))]
        self.assertMeans(events, "k", members=[])

    def test_a_remove_of_another_value_or_key_removes_nothing(self):
        one = Writer(0)
        one.write(("add", "k", 1))
        one.write(("add", "k", "1"))
        one.write(("remove", "k", 2))
        one.write(("remove", "j", 1))
        self.assertMeans(one.known, "k", members=[1, "1"])
        one.write(("remove", "k", 1))
        self.assertMeans(one.known, "k", members=["1"])

    def test_other_words_neither_add_nor_remove(self):
        one = Writer(0)
        for op in (("add", "k", 1), ("set", "k", 2), ("inc", "k", 3), ("set", "k", 1)):
            one.write(op)
        self.assertEqual(members_of(one.known, "k"), [1])

    def test_a_remove_without_an_add(self):
        self.assertMeans([event(0, 1, (), 1, ("remove", "k", 1))], "k")


class Guarantees(unittest.TestCase):
    def test_by_definition(self):
        for seed in range(60):
            events = some_events(seed, steps=120, sites=5)
            for key in KEYS:
                for order in orders_of(events, seed):
                    before = list(order)
                    heads = heads_by_definition(events, key)
                    values = {e[:2]: e[4][2] for e in events if e[4][:2] == ("set", key)}
                    self.assertEqual(heads_of(order, key), heads)
                    self.assertEqual(register_of(order, key), [values[dot] for dot in heads])
                    self.assertEqual(counter_of(order, key), sum(e[4][2] for e in events if e[4][:2] == ("inc", key)))
                    self.assertEqual(members_of(order, key), members_by_definition(events, key))
                    self.assertEqual(order, before)

    def test_behind_an_event_that_knows_all(self):
        for seed in range(60):
            one = Writer(7)
            one.known = some_events(seed)
            for key in KEYS:
                one.write(("set", key, "last"))
                self.assertEqual(register_of(one.known, key), ["last"])
                self.assertEqual(heads_of(one.known, key), [(7, one.vector()[7])])
                ahead = counter_of(one.known, key)
                one.write(("inc", key, 11))
                self.assertEqual(counter_of(one.known, key), ahead + 11)
                for value in VALUES:
                    one.write(("add", key, value))
                    self.assertIn(value, members_of(one.known, key))
                    one.write(("remove", key, value))
                    self.assertNotIn(value, members_of(one.known, key))

    def test_what_the_past_of_each_event_means(self):
        for e in some_events(1):
            past = past_of(some_events(1), e)
            if e[4][0] == "set":
                self.assertEqual(register_of(past + [e], e[4][1]), [e[4][2]])

    def test_lists_that_are_returned_are_new(self):
        events = some_events(3)
        for answer in (heads_of, register_of, members_of):
            first = answer(events, "k")
            wanted = list(first)
            first.append("more")
            self.assertEqual(answer(events, "k"), wanted)

    def test_kinds(self):
        for events in ([], some_events(2)):
            self.assertEqual([type(answer(events, "k")) for answer in ANSWERS], [list, list, int, list])


if __name__ == "__main__":
    unittest.main()
