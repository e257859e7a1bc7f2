"""Points [8], [10], [11], [43] to [50] and [60]: whole plans, with news that are lost, doubled and late.

`Plan.look_at` sees behind each step that a site answers as all events mean that its vector has, and that what it folded
is known to all that are there.
"""

import random
import unittest

from partmeet.replica.replica import site_of
from tests.plans import Plan
from tests.sites import meet, sites, tell, vector
from tests.writers import covers


def some_plan(seed):
    chance = random.Random(seed)
    size = chance.randint(2, 5)
    first = tuple(sorted(chance.sample(range(size), chance.randint(1, size))))
    return Plan(seed, size, first, lossy=chance.random() < 0.8)


class Plans(unittest.TestCase):
    def test_plans_by_chance(self):
        counts = {}
        for seed in range(120):
            with self.subTest(seed=seed):
                plan = some_plan(seed)
                for _ in range(150):
                    plan.step()
                plan.settle(12)
                self.assertTrue(plan.at_rest())
                for site in plan.sites.values():
                    self.assertEqual((site.held, site.waiting), ([], []))
                    self.assertEqual([lost for lost in plan.gone if lost not in site.knowing.over], [])
                for word in plan.counts:
                    counts[word] = counts.get(word, 0) + plan.counts[word]
        for word, least in (("forgot", 500), ("admitted", 60), ("handed", 50), ("lost", 40), ("retired", 40),
                            ("crashed", 60)):
            self.assertGreater(counts[word], least, word)

    def test_plans_that_never_forget_say_all_there_is(self):
        """Point [60]: news, again and again, bring all that the sender knows, however few events go at once."""
        plan = Plan(1, 3, (0, 1, 2))
        for number in range(3):
            for _ in range(50):
                plan.write(number)
        for _ in range(10):
            plan.say(0, 1)
            plan.say(1, 0)
            plan.deliver(0)
            plan.deliver(0)
        self.assertEqual(plan.sites[1].vector, vector(50, 50))
        self.assertEqual(plan.sites[0].vector, vector(50, 50))
        self.assertEqual(plan.sites[2].vector, vector(0, 0, 50))

    def test_a_plan_of_eight(self):
        plan = Plan(5, 8, (0, 3))
        for _ in range(400):
            plan.step()
        plan.settle(15)
        self.assertTrue(plan.at_rest())
        self.assertGreater(len(plan.sites), 4)


class LostSites(unittest.TestCase):
    def test_all_others_learn_what_one_of_them_knew_of_it(self):
        one, two, three, four = sites(4)
        for at in range(30):
            three.write(("inc", "k", 1))
        tell(three, two)
        one.retire(2, ())
        four.write(("inc", "k", 100))
        meet(one, two, four, rounds=5)
        for site in (one, two, four):
            site.forget()
            self.assertEqual((site.counter("k"), site.knowing.over, site.held), (120, (2,), []))
        self.assertEqual(one.base.as_data(), two.base.as_data())

    def test_what_only_lost_ones_knew_is_known_to_nobody(self):
        one, two, three, four = sites(4)
        four.write(("set", "k", 4))
        tell(four, three)
        late = three.news_for(0)
        one.retire(2, ())
        two.retire(3, ())
        meet(one, two, rounds=3)
        one.hear(2, late)
        meet(one, two, rounds=3)
        for site in (one, two):
            self.assertEqual((site.latest("k"), site.waiting, site.knowing.over), ([], [], (2, 3)))

    def test_one_that_was_handed_by_a_lost_one_counts(self):
        """Site 1 hands site 2 and is lost; site 0 may not let it be over until it has heard site 2."""
        one, two = sites(3, (0, 1))
        one.admit(2)
        tell(one, two)
        two.write(("inc", "k", 1))
        three = site_of(two.hand(2))
        three.write(("inc", "k", 10))
        one.retire(1, ())
        one.write(("inc", "k", 100))
        one.forget()
        self.assertEqual(one.knowing.over, ())
        self.assertTrue(covers(three.vector, one.base.vector))
        tell(three, one)
        self.assertEqual((one.counter("k"), one.knowing.over), (111, ()))
        meet(one, three)
        self.assertEqual((one.knowing.over, three.knowing.over), ((1,), (1,)))
        self.assertEqual((one.forget() > 0, three.forget() > 0, one.held, three.held), (True, True, [], []))
        self.assertEqual(one.base.as_data(), three.base.as_data())

    def test_one_that_nobody_handed_holds_up_nobody(self):
        one, two = sites(3, (0, 1))
        one.admit(2)
        tell(one, two)
        one.retire(1, (2,))
        self.assertEqual(one.knowing.over, (1,))
        self.assertIs(one.may_hand(2), True)
        three = site_of(one.hand(2))
        three.write(("inc", "k", 1))
        meet(one, three)
        self.assertEqual((one.counter("k"), three.knowing.over), (1, (1,)))


if __name__ == "__main__":
    unittest.main()
