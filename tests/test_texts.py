"""Points [5], [31], [32], and what is guaranteed in [33] and [34]: texts."""

import random
import unittest

from partmeet.meaning.texts import line_of, places_of, text_of
from tests.writers import KEYS, Writer, event, orders_of, past_of, some_events


def line_by_definition(events, key):
    inserts = [e for e in events if e[4][:2] == ("insert", key)]

    def below(after):
        hanging = [e for e in inserts if e[4][2] == after]
        rows = []
        for e in sorted(hanging, key=lambda e: (-e[3], -e[0])):
            rows += [e[:2]] + below(e[:2])
        return rows
    return below(None)


def places_by_definition(events, key):
    return [dot for dot in line_by_definition(events, key)
            if not [e for e in events if e[4] == ("erase", key, dot)]]


class TextTest(unittest.TestCase):
    def assertReads(self, events, key, line, places, text):
        for order in orders_of(events):
            before = list(order)
            self.assertEqual(line_of(order, key), line)
            self.assertEqual(places_of(order, key), places)
            self.assertEqual(text_of(order, key), text)
            self.assertEqual(order, before)


class Examples(TextTest):
    def test_the_example(self):
        none = (0, 0, 0, 0, 0, 0, 0, 0)
        first = (0, 1, none, 1, ("insert", "t", None, "A"))
        second = (1, 1, (1, 0, 0, 0, 0, 0, 0, 0), 2, ("insert", "t", (0, 1), "B"))
        third = (2, 1, (1, 0, 0, 0, 0, 0, 0, 0), 2, ("insert", "t", (0, 1), "C"))
        self.assertEqual(text_of([second, first, third], "t"), "ACB")
        self.assertEqual(line_of([first, second, third], "t"), [(0, 1), (2, 1), (1, 1)])

    def test_nothing(self):
        self.assertReads([], "t", [], [], "")
        one = Writer(0)
        one.write(("insert", "t", None, "a"))
        one.write(("set", "u", "text"))
        one.write(("inc", "u", 1))
        one.write(("admit", 1))
        self.assertReads(one.known, "u", [], [], "")
        self.assertReads(one.known, "t", [(0, 1)], [(0, 1)], "a")


class Lines(TextTest):
    def test_typed_from_the_beginning(self):
        one = Writer(0)
        for after, sign in ((None, "a"), ((0, 1), "b"), ((0, 2), "c")):
            one.write(("insert", "t", after, sign))
        self.assertReads(one.known, "t", [(0, 1), (0, 2), (0, 3)], [(0, 1), (0, 2), (0, 3)], "abc")

    def test_each_ahead_of_the_others(self):
        one = Writer(0)
        for sign in "abc":
            one.write(("insert", "t", None, sign))
        self.assertReads(one.known, "t", [(0, 3), (0, 2), (0, 1)], [(0, 3), (0, 2), (0, 1)], "cba")

    def test_behind_one_place_again_and_again(self):
        one = Writer(0)
        for after, sign in ((None, "a"), ((0, 1), "b"), ((0, 1), "c"), ((0, 2), "d")):
            one.write(("insert", "t", after, sign))
        dots = [(0, 1), (0, 3), (0, 2), (0, 4)]
        self.assertReads(one.known, "t", dots, dots, "acbd")

    def test_one_height_the_greater_site_comes_first(self):
        events = [event(site, 1, (), 1, ("insert", "t", None, str(site))) for site in (3, 0, 7, 5)]
        dots = [(7, 1), (5, 1), (3, 1), (0, 1)]
        self.assertReads(events, "t", dots, dots, "7530")

    def test_the_greater_height_comes_first_whatever_the_site(self):
        events = [event(7, 1, (), 1, ("insert", "t", None, "x")), event(0, 1, (), 1, ("inc", "t", 1)),
                  event(0, 2, (1,), 2, ("insert", "t", None, "y")), event(3, 1, (), 1, ("insert", "t", None, "z"))]
        dots = [(0, 2), (7, 1), (3, 1)]
        self.assertReads(events, "t", dots, dots, "yxz")

    def test_heights_are_numbers_and_no_texts(self):
        events = [event(0, n, (n - 1,), n, ("insert", "t", None, "abcdefghijkl"[n - 1])) for n in range(1, 13)]
        dots = [(0, n) for n in range(12, 0, -1)]
        self.assertReads(events, "t", dots, dots, "lkjihgfedcba")

    def test_what_hangs_below_a_place_comes_with_it(self):
        one, two = Writer(0), Writer(1)
        for after, sign in ((None, "a"), ((0, 1), "b"), ((0, 2), "c")):
            one.write(("insert", "t", after, sign))
        for after, sign in ((None, "x"), ((1, 1), "y"), ((1, 2), "z")):
            two.write(("insert", "t", after, sign))
        dots = [(1, 1), (1, 2), (1, 3), (0, 1), (0, 2), (0, 3)]
        self.assertReads(one.known + two.known, "t", dots, dots, "xyzabc")

    def test_two_sites_type_behind_one_place(self):
        zero, one, two = Writer(0), Writer(1), Writer(2)
        zero.write(("insert", "t", None, "("))
        zero.write(("insert", "t", (0, 1), ")"))
        one.hear(zero)
        two.hear(zero)
        one.write(("insert", "t", (0, 1), "a"))
        one.write(("insert", "t", (1, 1), "b"))
        two.write(("insert", "t", (0, 1), "c"))
        two.write(("insert", "t", (2, 1), "d"))
        zero.hear(one)
        zero.hear(two)
        dots = [(0, 1), (2, 1), (2, 2), (1, 1), (1, 2), (0, 2)]
        self.assertReads(zero.known, "t", dots, dots, "(cdab)")

    def test_keys_do_not_mix(self):
        one = Writer(0)
        one.write(("insert", "t", None, "a"))
        one.write(("insert", "u", None, "b"))
        one.write(("insert", "t", (0, 1), "c"))
        one.write(("insert", "u", (0, 2), "d"))
        one.write(("erase", "u", (0, 2)))
        self.assertReads(one.known, "t", [(0, 1), (0, 3)], [(0, 1), (0, 3)], "ac")
        self.assertReads(one.known, "u", [(0, 2), (0, 4)], [(0, 4)], "d")


class NoTree(TextTest):
    def test_after_is_the_dot_of_no_insert_of_the_key(self):
        one = Writer(0)
        one.write(("insert", "u", None, "u"))
        one.write(("inc", "t", 1))
        one.write(("insert", "t", None, "a"))
        for number in (1, 2, 99):
            one.write(("insert", "t", (0, number), "x"))
            one.write(("insert", "t", one.known[-1][:2], "y"))
            one.write(("insert", "t", one.known[-1][:2], "z"))
        one.write(("insert", "t", (5, 1), "x"))
        self.assertReads(one.known, "t", [(0, 3)], [(0, 3)], "a")
        self.assertReads(one.known, "u", [(0, 1)], [(0, 1)], "u")

    def test_a_place_that_hangs_below_itself(self):
        events = [event(0, 1, (), 1, ("insert", "t", (0, 1), "a")), event(0, 2, (1,), 2, ("insert", "t", (0, 3), "b")),
                  event(0, 3, (2,), 3, ("insert", "t", (0, 2), "c")), event(0, 4, (3,), 4, ("insert", "t", None, "d"))]
        self.assertReads(events, "t", [(0, 4)], [(0, 4)], "d")

    def test_one_that_is_no_place_may_be_erased(self):
        events = [event(0, 1, (), 1, ("insert", "t", (3, 3), "a")), event(0, 2, (1,), 2, ("erase", "t", (0, 1)))]
        self.assertReads(events, "t", [], [], "")


class Erasing(TextTest):
    def test_an_erased_place_with_places_below_it(self):
        one = Writer(0)
        for after, sign in ((None, "a"), ((0, 1), "b"), ((0, 2), "c"), ((0, 1), "d")):
            one.write(("insert", "t", after, sign))
        one.write(("erase", "t", (0, 1)))
        line = [(0, 1), (0, 4), (0, 2), (0, 3)]
        self.assertReads(one.known, "t", line, line[1:], "dbc")
        one.write(("erase", "t", (0, 2)))
        self.assertReads(one.known, "t", line, [(0, 4), (0, 3)], "dc")

    def test_erased_by_who_knows_nothing_of_what_hangs_there(self):
        events = [event(0, 1, (), 1, ("insert", "t", None, "a")), event(1, 1, (1,), 2, ("erase", "t", (0, 1))),
                  event(2, 1, (1,), 2, ("insert", "t", (0, 1), "b")), event(3, 1, (1,), 2, ("erase", "t", (0, 1)))]
        self.assertReads(events, "t", [(0, 1), (2, 1)], [(2, 1)], "b")

    def test_all_erased(self):
        one = Writer(0)
        one.write(("insert", "t", None, "a"))
        one.write(("erase", "t", (0, 1)))
        self.assertReads(one.known, "t", [(0, 1)], [], "")

    def test_an_erase_of_another_key_erases_nothing(self):
        one = Writer(0)
        one.write(("insert", "t", None, "a"))
        one.write(("erase", "u", (0, 1)))
        self.assertReads(one.known, "t", [(0, 1)], [(0, 1)], "a")

    def test_one_sign_in_several_places(self):
        one = Writer(0)
        for after in (None, (0, 1), (0, 2)):
            one.write(("insert", "t", after, "a"))
        one.write(("erase", "t", (0, 2)))
        self.assertReads(one.known, "t", [(0, 1), (0, 2), (0, 3)], [(0, 1), (0, 3)], "aa")


class LongTexts(TextTest):
    def test_some_hundred_places_one_behind_another(self):
        one = Writer(0)
        for n in range(1, 701):
            seen = (n - 1, 0, 0, 0, 0, 0, 0, 0)
            one.known.append((0, n, seen, n, ("insert", "t", (0, n - 1) if n > 1 else None, "abcdefg"[n % 7])))
        dots = [(0, n) for n in range(1, 701)]
        self.assertReads(one.known, "t", dots, dots, "bcdefga" * 100)

    def test_two_thousand_places_one_behind_another(self):
        events = [event(0, n, (n - 1,), n, ("insert", "t", (0, n - 1) if n > 1 else None, "x"))
                  for n in range(1, 2001)]
        self.assertEqual(line_of(events, "t"), [(0, n) for n in range(1, 2001)])
        self.assertEqual(text_of(list(reversed(events)), "t"), "x" * 2000)


class Guarantees(unittest.TestCase):
    def test_by_definition(self):
        for seed in range(60):
            events = some_events(seed, steps=120)
            signs = {e[:2]: e[4][-1] for e in events if e[4][0] == "insert"}
            for key in KEYS:
                places = places_by_definition(events, key)
                for order in orders_of(events, seed):
                    before = list(order)
                    self.assertEqual(line_of(order, key), line_by_definition(events, key))
                    self.assertEqual(places_of(order, key), places)
                    self.assertEqual(text_of(order, key), "".join(signs[dot] for dot in places))
                    self.assertEqual(order, before)

    def test_a_part_of_the_events_has_their_line_without_what_it_has_not(self):
        for seed in range(60):
            events = some_events(seed, steps=120, sites=3)
            for e in events:
                past = past_of(events, e)
                dots = [other[:2] for other in past]
                for key in KEYS:
                    self.assertEqual(line_of(past, key), [dot for dot in line_of(events, key) if dot in dots])

    def test_behind_an_event_that_knows_all(self):
        for seed in range(60):
            chance = random.Random(seed)
            one = Writer(chance.randrange(8))
            one.known = some_events(seed)
            for key in KEYS:
                for _ in range(4):
                    after = chance.choice([None] + line_of(one.known, key))
                    dot = one.write(("insert", key, after, "!"))[:2]
                    line = line_of(one.known, key)
                    self.assertEqual(line.index(dot), 0 if after is None else line.index(after) + 1)
                    self.assertIn(dot, places_of(one.known, key))
                gone = chance.choice(places_of(one.known, key))
                one.write(("erase", key, gone))
                self.assertNotIn(gone, places_of(one.known, key))
                self.assertIn(gone, line_of(one.known, key))

    def test_lists_that_are_returned_are_new(self):
        events = [event(0, 1, (), 1, ("insert", "t", None, "a"))]
        for answer in (line_of, places_of):
            first = answer(events, "t")
            first.clear()
            self.assertEqual(answer(events, "t"), [(0, 1)])


if __name__ == "__main__":
    unittest.main()
