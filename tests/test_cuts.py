"""Points [5] and [45]: the cut of a stable vector and held events."""

import itertools
import random
import unittest

from partmeet.data.vectors import NO_VECTOR
from partmeet.knowing.cuts import cut_of
from tests.writers import covers, event, has, meeting_events, orders_of, some_events


def vector(*numbers):
    return numbers + (0,) * (8 - len(numbers))


def cut_by_search(stable, held):
    """The greatest vector that the stable one covers, such that each held event that it does not have covers it."""
    found = []
    for cut in itertools.product(*[range(number + 1) for number in stable]):
        if all(has(cut, e[:2]) or covers(e[2], cut) for e in held):
            found.append(cut)
    greatest = tuple(max(numbers) for numbers in zip(*found))
    assert greatest in found
    return greatest


class CutTest(unittest.TestCase):
    def assertCut(self, stable, held, cut):
        for order in orders_of(held):
            before = list(order)
            self.assertEqual(cut_of(stable, order), cut)
            self.assertEqual(order, before)
        self.assertEqual(cut_by_search(stable, held), cut)


class Cuts(CutTest):
    def test_nothing_held(self):
        for stable in (NO_VECTOR, vector(1), vector(3, 0, 2)):
            self.assertCut(stable, [], stable)

    def test_all_have_the_stable_vector_in_their_past(self):
        held = [event(0, 3, (2, 1), 4, ("inc", "k", 1)), event(1, 2, (2, 1, 1), 4, ("inc", "k", 1)),
                event(2, 1, (2, 1), 4, ("inc", "k", 1))]
        self.assertCut(vector(2, 1), held, vector(2, 1))

    def test_events_that_the_cut_has_are_not_asked(self):
        held = [event(0, 1, (), 1, ("inc", "k", 1)), event(0, 2, (1,), 2, ("inc", "k", 1)),
                event(1, 1, (2,), 3, ("inc", "k", 1))]
        self.assertCut(vector(2, 1), held, vector(2, 1))
        self.assertCut(vector(2), held, vector(2))

    def test_one_that_has_not(self):
        held = [event(1, 1, (1,), 2, ("inc", "k", 1))]
        self.assertCut(vector(3), held, vector(1))
        self.assertCut(vector(3, 1), held, vector(3, 1))
        self.assertCut(vector(1), held, vector(1))
        self.assertCut(vector(3, 0, 2), held, vector(1))

    def test_one_that_falls_out_behind_another(self):
        # The event of site 0 is stable, until that of site 2 is found not to know it; then it lets (1, 1) go, too.
        held = [event(0, 1, (), 1, ("inc", "k", 1)), event(1, 1, (), 1, ("inc", "k", 1)),
                event(2, 1, (0, 1), 2, ("inc", "k", 1))]
        self.assertCut(vector(1, 1), held, NO_VECTOR)
        self.assertCut(vector(1, 1), held[:2], vector(1, 1))
        self.assertCut(vector(0, 1), held[1:], vector(0, 1))

    def test_a_row_that_falls_out_one_behind_another(self):
        held = [event(1, 1, (), 1, ("inc", "k", 1)), event(2, 1, (), 1, ("inc", "k", 1)),
                event(0, 1, (0, 0, 1), 2, ("inc", "k", 1)), event(3, 1, (0, 1, 1), 2, ("inc", "k", 1))]
        self.assertCut(vector(1, 1, 1, 1), held, vector(1, 1, 1, 1))
        self.assertCut(vector(1, 1, 1), held[:3], vector(1, 1, 1))
        self.assertCut(vector(1, 1, 1), held, NO_VECTOR)

    def test_only_the_cut_of_whole_dots_of_a_site(self):
        held = [event(0, n, (n - 1, 5), n + 5, ("inc", "k", 1)) for n in range(1, 6)]
        held.append(event(2, 1, (2, 5), 9, ("inc", "k", 1)))
        self.assertCut(vector(5, 5), held, vector(2, 5))
        self.assertCut(vector(5, 5, 1), held, vector(5, 5, 1))
        self.assertCut(vector(4, 3), held, vector(2, 3))


class AgainstASearch(CutTest):
    def test_events_of_writers(self):
        for seed in range(60):
            chance = random.Random(seed)
            events = meeting_events(seed, steps=12) if seed < 30 else some_events(seed, steps=25, sites=3)
            tops = [max([e[1] for e in events if e[0] == site], default=0) for site in range(8)]
            for _ in range(5):
                stable = tuple(chance.randint(0, min(top, 5)) for top in tops)
                self.assertCut(stable, events, cut_by_search(stable, events))

    def test_any_events(self):
        for seed in range(60):
            chance = random.Random(seed)
            held = []
            for dot in chance.sample(list(itertools.product(range(3), range(1, 5))), 6):
                seen = [chance.randint(0, 4) for _ in range(3)]
                seen[dot[0]] = dot[1] - 1
                held.append(event(dot[0], dot[1], tuple(seen), 1, ("inc", "k", 1)))
            stable = vector(*[chance.randint(1, 4) for _ in range(3)])
            self.assertCut(stable, held, cut_by_search(stable, held))


if __name__ == "__main__":
    unittest.main()
