"""Point [90]: the first fault of events."""

import random
import unittest

from partmeet.data.events import is_event
from partmeet.data.vectors import NO_VECTOR
from partmeet.judge.events import fault_of_events
from partmeet.meaning.texts import places_of
from tests.writers import Writer, event, has, orders_of, past_of, some_events


def fault_by_definition(events):
    for at, one in enumerate(events):
        if not is_event(one):
            return ("strange", at)
        if one[:2] in [other[:2] for other in events[:at]]:
            return ("double", at)
    for at, one in enumerate(events):
        past = past_of(events, one)
        if len(past) < sum(one[2]):
            return ("open", at)
        if any(other[2][site] > one[2][site] for other in past for site in range(8)):
            return ("blind", at)
        if one[3] != 1 + max([other[3] for other in past], default=0):
            return ("height", at)
        op = one[4]
        if op[0] in ("insert", "erase") and op[2] is not None and op[2] not in places_of(past, op[1]):
            return ("place", at)
    return None


def inc(site, n, seen, height):
    return event(site, n, seen, height, ("inc", "k", 1))


class JudgeTest(unittest.TestCase):
    def assertFault(self, events, wanted):
        before = list(events)
        self.assertEqual(fault_of_events(events), wanted)
        self.assertEqual(events, before)


class Right(JudgeTest):
    def test_nothing(self):
        self.assertFault([], None)

    def test_one(self):
        self.assertFault([inc(3, 1, (), 1)], None)

    def test_each_operation(self):
        one = Writer(0)
        for op in (("set", "k", 1), ("inc", "k", 1), ("add", "k", 1), ("remove", "k", 9), ("insert", "k", None, "a"),
                   ("insert", "k", (0, 5), "b"), ("erase", "k", (0, 5)), ("insert", "k", (0, 6), "c"), ("admit", 1),
                   ("begin", 1), ("retire", 2, (3,)), ("ack", (2,))):
            one.write(op)
        self.assertFault(one.known, None)

    def test_in_any_order(self):
        for seed in range(40):
            for order in orders_of(some_events(seed), seed):
                self.assertFault(order, None)

    def test_two_erase_one_place_without_knowing_of_one_another(self):
        events = [event(0, 1, (), 1, ("insert", "t", None, "a")), event(1, 1, (1,), 2, ("erase", "t", (0, 1))),
                  event(2, 1, (1,), 2, ("erase", "t", (0, 1))), event(3, 1, (1,), 2, ("insert", "t", (0, 1), "b"))]
        for order in orders_of(events):
            self.assertFault(order, None)


class Strange(JudgeTest):
    def test_what_is_no_event(self):
        for wrong in (None, True, 0, "", "event", (), (0, 1), inc(0, 1, (), 0), inc(0, 1, (1,), 1), inc(8, 1, (), 1),
                      inc(0, 1, (), 1) + (0,), (0, 1, NO_VECTOR, 1, ("set", "K", 1)), (0, 1, NO_VECTOR, 1, None)):
            self.assertFault([wrong], ("strange", 0))
            self.assertFault([inc(1, 1, (), 1), wrong, inc(2, 1, (), 1)], ("strange", 1))
            self.assertFault([inc(1, 1, (), 1), inc(2, 1, (), 1), wrong, wrong], ("strange", 2))

    def test_ahead_of_all_other_faults(self):
        faulty = [inc(0, 2, (1,), 1), inc(1, 1, (), 7), event(2, 1, (), 1, ("erase", "t", (0, 1)))]
        self.assertFault(faulty + [None], ("strange", 3))
        self.assertFault([None] + faulty, ("strange", 0))

    def test_strange_and_double_by_their_places(self):
        one = inc(0, 1, (), 1)
        self.assertFault([one, one, None], ("double", 1))
        self.assertFault([one, None, one], ("strange", 1))
        # A row that is no event is strange, although its dot stands there already.
        self.assertFault([one, inc(0, 1, (), 0)], ("strange", 1))


class Double(JudgeTest):
    def test_one_event_twice(self):
        self.assertFault([inc(0, 1, (), 1), inc(1, 1, (), 1), inc(0, 1, (), 1)], ("double", 2))

    def test_another_event_with_one_dot(self):
        self.assertFault([inc(0, 1, (), 1), event(0, 1, (0, 5), 9, ("set", "k", 2))], ("double", 1))

    def test_the_first_of_several(self):
        a, b = inc(0, 1, (), 1), inc(1, 1, (), 1)
        self.assertFault([a, b, b, a], ("double", 2))

    def test_ahead_of_faults_that_stand_earlier(self):
        self.assertFault([inc(0, 2, (1,), 1), inc(0, 2, (1,), 1)], ("double", 1))
        self.assertFault([inc(0, 1, (), 5), inc(0, 1, (), 5)], ("double", 1))


class Open(JudgeTest):
    def test_an_own_event_lacks(self):
        self.assertFault([inc(0, 2, (1,), 2)], ("open", 0))
        self.assertFault([inc(0, 1, (), 1), inc(0, 3, (2,), 3)], ("open", 1))

    def test_an_event_of_another_site_lacks(self):
        self.assertFault([inc(0, 1, (), 1), inc(1, 1, (2,), 2)], ("open", 1))
        self.assertFault([inc(1, 1, (0, 0, 0, 0, 0, 0, 0, 1), 2)], ("open", 0))

    def test_an_event_lacks_in_the_middle(self):
        events = [inc(0, 1, (), 1), inc(0, 3, (2,), 3), inc(0, 4, (3,), 4), inc(1, 1, (4,), 5)]
        self.assertFault(events, ("open", 1))
        self.assertFault([events[3]] + events[:3], ("open", 0))

    def test_huge_numbers(self):
        self.assertFault([inc(0, 1, (0, 10 ** 18), 1)], ("open", 0))

    def test_the_first_place_where_a_word_applies(self):
        wrong_height = inc(0, 1, (), 2)
        is_open = inc(1, 1, (0, 0, 1), 2)
        self.assertFault([wrong_height, is_open], ("height", 0))
        self.assertFault([is_open, wrong_height], ("open", 0))

    def test_open_comes_ahead_of_the_other_words_at_one_place(self):
        # It is blind as well: (1, 1) saw (0, 1).
        events = [inc(0, 1, (), 1), inc(1, 1, (1,), 2), event(2, 1, (0, 1, 0, 1), 9, ("erase", "t", (6, 6)))]
        self.assertFault(events, ("open", 2))


class Blind(JudgeTest):
    def test_what_the_past_saw_lacks(self):
        events = [inc(0, 1, (), 1), inc(1, 1, (1,), 2), inc(2, 1, (0, 1), 3)]
        self.assertFault(events, ("blind", 2))
        self.assertFault([events[2], events[0], events[1]], ("blind", 0))
        self.assertFault([events[1], events[2], events[0]], ("blind", 1))

    def test_an_own_past_lacks(self):
        events = [inc(0, 1, (), 1), inc(1, 1, (1,), 2), inc(1, 2, (0, 1), 3)]
        self.assertFault(events, ("blind", 2))

    def test_an_earlier_event_of_a_site_saw_what_a_later_one_forgot(self):
        # (1, 2) is blind itself, so (2, 1), which stands ahead of it, is blind by what (1, 1) saw.
        events = [inc(2, 1, (0, 2), 4), inc(0, 1, (), 1), inc(1, 1, (1,), 2), inc(1, 2, (0, 1), 3)]
        self.assertFault(events, ("blind", 0))

    def test_blind_comes_ahead_of_height_and_place(self):
        events = [inc(0, 1, (), 1), inc(1, 1, (1,), 2), event(2, 1, (0, 1), 1, ("erase", "t", (6, 6)))]
        self.assertFault(events, ("blind", 2))

    def test_what_an_open_event_saw(self):
        # (1, 1) saw (3, 1), which no event of the list has; who has it in its past and did not see that is blind.
        events = [inc(0, 1, (0, 1), 3), inc(1, 1, (0, 0, 0, 1), 2)]
        self.assertFault(events, ("blind", 0))
        self.assertFault(list(reversed(events)), ("open", 0))


class Height(JudgeTest):
    def test_without_a_past(self):
        for height in (2, 3, 100):
            self.assertFault([inc(0, 1, (), height)], ("height", 0))

    def test_one_more_than_the_greatest_of_the_past(self):
        past = [inc(0, 1, (), 1), inc(0, 2, (1,), 2), inc(1, 1, (), 1)]
        for height in range(1, 6):
            events = past + [inc(2, 1, (2, 1), height)]
            self.assertFault(events, None if height == 3 else ("height", 3))

    def test_the_greatest_need_not_be_the_latest(self):
        events = [inc(1, 1, (2, 0), 3), inc(0, 1, (), 1), inc(0, 2, (1,), 2), inc(1, 2, (2, 1), 4), inc(2, 1, (2, 2), 5)]
        self.assertFault(events, None)
        self.assertFault(events[:4] + [inc(2, 1, (2, 2), 3)], ("height", 4))

    def test_a_later_event_of_the_past_may_be_lower_in_events_that_are_wrong(self):
        # (1, 1) must be 1 more than the greatest height, which the first event of site 0 has.
        events = [inc(1, 1, (2,), 8), inc(0, 1, (), 7), inc(0, 2, (1,), 2)]
        self.assertFault(events, ("height", 1))
        self.assertFault([inc(1, 1, (2,), 3)] + events[1:], ("height", 0))

    def test_height_comes_ahead_of_place(self):
        self.assertFault([event(0, 1, (), 2, ("erase", "t", (6, 6)))], ("height", 0))

    def test_height_ahead_of_a_later_place_and_behind_an_earlier_one(self):
        wrong_height, wrong_place = inc(0, 1, (), 2), event(1, 1, (), 1, ("erase", "t", (6, 6)))
        self.assertFault([wrong_height, wrong_place], ("height", 0))
        self.assertFault([wrong_place, wrong_height], ("place", 0))


class Place(JudgeTest):
    def ahead(self):
        return [event(0, 1, (), 1, ("insert", "t", None, "a")), event(0, 2, (1,), 2, ("insert", "t", (0, 1), "b")),
                event(0, 3, (2,), 3, ("insert", "u", None, "c")), event(0, 4, (3,), 4, ("inc", "t", 1))]

    def assertPlace(self, ahead, seen, height, place, right):
        for op in (("insert", "t", place, "x"), ("erase", "t", place)):
            events = ahead + [event(1, 1, seen, height, op)]
            self.assertFault(events, None if right else ("place", len(ahead)))
            self.assertFault(list(reversed(events)), None if right else ("place", 0))

    def test_what_is_shown(self):
        self.assertPlace(self.ahead(), (4,), 5, (0, 1), True)
        self.assertPlace(self.ahead(), (4,), 5, (0, 2), True)

    def test_what_is_no_place_of_the_key(self):
        for place in ((0, 3), (0, 4), (0, 5), (1, 1), (7, 1)):
            self.assertPlace(self.ahead(), (4,), 5, place, False)

    def test_what_is_not_in_the_past(self):
        self.assertPlace(self.ahead(), (1,), 2, (0, 2), False)
        self.assertPlace(self.ahead(), (1,), 2, (0, 1), True)

    def test_none_needs_nothing(self):
        self.assertFault([event(0, 1, (), 1, ("insert", "t", None, "a"))], None)

    def test_an_erased_place(self):
        ahead = self.ahead() + [event(0, 5, (4,), 5, ("erase", "t", (0, 1)))]
        self.assertPlace(ahead, (5,), 6, (0, 1), False)
        self.assertPlace(ahead, (5,), 6, (0, 2), True)
        # Who does not know of the erasing may still name the place.
        self.assertPlace(ahead, (4,), 5, (0, 1), True)

    def test_an_erase_of_another_key_hides_nothing(self):
        events = self.ahead() + [event(0, 5, (4,), 5, ("insert", "t", (0, 1), "x"))]
        wrong = event(1, 1, (1,), 2, ("erase", "u", (0, 1)))
        self.assertFault(events + [wrong], ("place", 5))
        # The one that stands ahead of the wrong erasing, and has it in its past, still sees the place.
        knowing = event(2, 1, (1, 1), 3, ("erase", "t", (0, 1)))
        self.assertFault([knowing] + events + [wrong], ("place", 6))

    def test_a_place_that_hangs_below_what_the_past_does_not_have(self):
        # (1, 1) hangs below (0, 1), which it did not know: it is no place of the tree for who knows only it.
        events = [event(2, 1, (0, 1), 2, ("insert", "t", (1, 1), "c")), event(0, 1, (), 1, ("insert", "t", None, "a")),
                  event(1, 1, (), 1, ("insert", "t", (0, 1), "b"))]
        self.assertFault(events, ("place", 0))
        both = event(2, 1, (1, 1), 2, ("insert", "t", (1, 1), "c"))
        self.assertFault([both] + events[1:], ("place", 2))

    def test_places_that_hang_below_one_another(self):
        events = [event(1, 1, (2,), 3, ("erase", "t", (0, 1))), event(0, 1, (), 1, ("insert", "t", (0, 2), "a")),
                  event(0, 2, (1,), 2, ("insert", "t", (0, 1), "b"))]
        self.assertFault(events, ("place", 0))
        self.assertFault(events[1:], ("place", 0))

    def test_place_ahead_of_later_faults(self):
        wrong_place = event(0, 1, (), 1, ("erase", "t", (0, 1)))
        for later in (inc(1, 1, (2,), 3), inc(1, 1, (), 4), event(1, 1, (), 1, ("insert", "t", (1, 1), "a"))):
            self.assertFault([wrong_place, later], ("place", 0))


class AnyEvents(JudgeTest):
    def spoiled(self, events, chance):
        """Change something about one event, or leave one out."""
        rows = list(events)
        at = chance.randrange(len(rows))
        site, n, seen, height, op = rows[at]
        what = chance.choice(["seen", "height", "place", "out", "twice", "height 0", "number", "swap"])
        if what == "out":
            return rows[:at] + rows[at + 1:]
        if what == "twice":
            rows.insert(chance.randrange(len(rows) + 1), rows[at])
            return rows
        if what == "seen":
            other = chance.randrange(8)
            seen = seen[:other] + (max(0, seen[other] + chance.choice([-2, -1, 1])),) + seen[other + 1:]
        if what == "height":
            height = max(1, height + chance.choice([-1, 1]))
        if what == "height 0":
            height = 0
        if what == "number":
            n += 1
        if what == "place":
            dot = chance.choice(rows)[:2]
            op = chance.choice([("erase", "t", dot), ("insert", "t", dot, "q"), ("insert", "t", None, "q")])
        if what == "swap":
            other = chance.randrange(len(rows))
            rows[at], rows[other] = rows[other], rows[at]
            return rows
        rows[at] = (site, n, seen, height, op)
        return rows

    def test_by_definition(self):
        chance = random.Random(3)
        words = {}
        for seed in range(400):
            events = some_events(seed, steps=25)
            if chance.random() < 0.5:
                chance.shuffle(events)
            for _ in range(4):
                for _ in range(chance.randrange(1, 4)):
                    events = self.spoiled(events, chance) or some_events(seed)
                wanted = fault_by_definition(events)
                self.assertFault(events, wanted)
                word = None if wanted is None else wanted[0]
                words[word] = words.get(word, 0) + 1
        self.assertEqual(set(words), {None, "strange", "double", "open", "blind", "height", "place"})

    def test_two_thousand_events(self):
        events = [event(0, n, (n - 1,), n, ("insert", "t", (0, n - 1) if n > 1 else None, "x"))
                  for n in range(1, 2001)]
        self.assertFault(events, None)
        self.assertFault(list(reversed(events)), None)

    def test_pasts_are_closed_in_what_is_right(self):
        for e in some_events(4):
            past = past_of(some_events(4), e)
            self.assertTrue(all(has(e[2], other[:2]) for other in past))
            self.assertFault(past + [e], None)


if __name__ == "__main__":
    unittest.main()
