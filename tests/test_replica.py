"""Points [4] to [6], [51] to [57]: sites that write, hear, say news, forget and retire one another."""

import unittest

from partmeet.base.base import Base
from partmeet.data.vectors import NO_VECTOR
from partmeet.errors import NoPlace, OutOfRange, Retired
from partmeet.knowing.knowing import Knowing
from partmeet.replica.replica import MOST_NEWS, Site, site_of
from tests.sites import SiteTest, meet, news, sites, state_of, tell, vector
from tests.writers import event


class NewSites(SiteTest):
    def test_fields(self):
        self.assertEqual(MOST_NEWS, 20)
        site = Site(1, 3, (0, 1))
        self.assertEqual((site.number, site.size, site.vector), (1, 3, NO_VECTOR))
        self.assertEqual((site.held, site.waiting), ([], []))
        self.assertIsInstance(site.base, Base)
        self.assertEqual(site.base.as_data(), Base().as_data())
        self.assertIsInstance(site.knowing, Knowing)
        self.assertEqual(site.knowing.as_data(), Knowing(1, 3, (0, 1)).as_data())
        self.assertEqual([site.heard(other) for other in range(3)], [NO_VECTOR] * 3)
        self.assertEqual((site.stable(), site.cut(), site.fresh(), site.forget()), (NO_VECTOR, NO_VECTOR, [], 0))
        self.assertEqual(site.news_for(0), ("news", NO_VECTOR, ()))

    def test_answers(self):
        site = Site(0, 1, (0,))
        self.assertEqual((site.latest("k"), site.heads("k"), site.counter("k")), ([], [], 0))
        self.assertEqual((site.members("k"), site.text("k"), site.places("k")), ([], "", []))


class Examples(SiteTest):
    def test_the_example_of_the_interface(self):
        one, two = Site(0, 3, (0, 1)), Site(1, 3, (0, 1))
        self.assertEqual((one.write(("set", "k", 1)), two.write(("set", "k", 2))), ((0, 1), (1, 1)))
        two.hear(0, one.news_for(1))
        self.assertEqual(two.latest("k"), [1, 2])
        self.assertEqual(two.write(("set", "k", 3)), (1, 2))
        one.hear(1, two.news_for(0))
        self.assertEqual((one.latest("k"), one.vector[:2], one.stable()[:2]), ([3], (1, 2), (1, 2)))
        self.assertEqual((one.forget(), one.held, one.latest("k")), (3, [], [3]))
        self.assertEqual((one.admit(2), one.may_hand(2)), ((0, 2), False))
        two.hear(0, one.news_for(1))
        one.hear(1, two.news_for(0))
        self.assertIs(one.may_hand(2), True)
        three = site_of(one.hand(2))
        self.assertEqual((three.number, three.latest("k"), three.vector[:3]), (2, [3], (3, 2, 0)))


class Writing(SiteTest):
    def test_each_operation(self):
        site, = sites(1)
        ops = [("set", "k", 7), ("inc", "k", -2), ("add", "k", "x"), ("add", "k", "y"), ("remove", "k", "x"),
               ("insert", "k", None, "a"), ("insert", "k", (0, 6), "b"), ("erase", "k", (0, 6))]
        for n, op in enumerate(ops, 1):
            self.assertEqual(site.write(op), (0, n))
            self.assertEqual(site.held[-1], event(0, n, (n - 1,), n, op))
            self.assertEqual(site.vector, vector(n))
        self.assertEqual(site.fresh(), site.held)
        self.assertEqual((site.latest("k"), site.heads("k"), site.counter("k")), ([7], [(0, 1)], -2))
        self.assertEqual((site.members("k"), site.text("k"), site.places("k")), (["y"], "b", [(0, 7)]))

    def test_what_is_written_is_noted(self):
        one, two = sites(2)
        two.write(("inc", "k", 1))
        tell(two, one)
        one.write(("inc", "k", 1))
        self.assertEqual(one.held[-1], event(0, 1, (0, 1), 2, ("inc", "k", 1)))
        self.assertEqual(one.knowing.told, [vector(1, 1), vector(0, 1)])
        self.assertEqual((one.heard(0), one.heard(1)), (vector(1, 1), vector(0, 1)))

    def test_heights(self):
        one, two = sites(2)
        one.write(("inc", "k", 1))
        one.write(("inc", "k", 1))
        two.write(("inc", "k", 1))
        self.assertEqual(two.held[-1][3], 1)
        tell(one, two)
        two.write(("inc", "k", 1))
        self.assertEqual(two.held[-1], event(1, 2, (2, 1), 3, ("inc", "k", 1)))
        # The greatest height need not be that of the last one that was taken.
        one.write(("inc", "k", 1))
        tell(two, one)
        one.hear(1, news((2, 3), event(1, 3, (0, 2), 2, ("inc", "k", 1))))
        one.write(("inc", "k", 1))
        self.assertEqual(one.held[-1][3], 4)

    def test_heights_behind_forgetting(self):
        site, = sites(1)
        for n in range(3):
            site.write(("inc", "k", 1))
        self.assertEqual(site.forget(), 3)
        site.write(("inc", "k", 1))
        self.assertEqual(site.held, [event(0, 4, (3,), 4, ("inc", "k", 1))])

    def test_places_that_are_not_shown(self):
        one, two = sites(2)
        one.write(("insert", "k", None, "a"))
        one.write(("insert", "k", (0, 1), "b"))
        one.write(("erase", "k", (0, 1)))
        one.write(("set", "k", 1))
        two.write(("insert", "k", None, "c"))
        bad = {"k": [(0, 1), (0, 3), (0, 4), (0, 5), (1, 1), (7, 1), (0, 0), (-8, 2), (8, 1)], "j": [(0, 2), (0, 1)]}
        for site in (one, site_of(one.image())):
            for key, dots in bad.items():
                for dot in dots:
                    self.assertRefused(NoPlace, site, Site.write, ("insert", key, dot, "x"))
                    self.assertRefused(NoPlace, site, Site.write, ("erase", key, dot))
        tell(two, one)
        self.assertEqual(one.write(("insert", "k", (1, 1), "d")), (0, 5))
        self.assertEqual(one.write(("erase", "k", (0, 2))), (0, 6))
        self.assertRefused(NoPlace, one, Site.write, ("erase", "k", (0, 2)))

    def test_places_of_the_base(self):
        site, = sites(1)
        site.write(("insert", "k", None, "a"))
        site.write(("insert", "k", (0, 1), "b"))
        site.write(("erase", "k", (0, 1)))
        self.assertEqual(site.forget(), 3)
        self.assertRefused(NoPlace, site, Site.write, ("insert", "k", (0, 1), "x"))
        self.assertRefused(NoPlace, site, Site.write, ("erase", "k", (0, 1)))
        site.write(("insert", "k", (0, 2), "c"))
        site.write(("erase", "k", (0, 2)))
        self.assertEqual(site.text("k"), "c")

    def test_an_insert_at_the_beginning_is_never_refused(self):
        site, = sites(1)
        self.assertEqual(site.write(("insert", "k", None, "a")), (0, 1))

    def test_numbers_that_are_no_dots_are_values(self):
        site, = sites(1)
        for op in (("set", "k", 5), ("add", "k", 5), ("remove", "k", 5), ("inc", "k", 5)):
            site.write(op)
        self.assertEqual(site.vector, vector(4))


class Hearing(SiteTest):
    def test_the_example(self):
        one, two = sites(2)
        one.write(("set", "k", 1))
        two.write(("set", "k", 2))
        self.assertIsNone(two.hear(0, one.news_for(1)))
        self.assertEqual(two.latest("k"), [1, 2])
        self.assertEqual(two.vector, vector(1, 1))
        self.assertEqual(two.held, [event(1, 1, (), 1, ("set", "k", 2)), event(0, 1, (), 1, ("set", "k", 1))])

    def test_what_is_taken_is_noted(self):
        one, two, three = sites(3)
        one.write(("inc", "k", 1))
        tell(one, two)
        two.write(("inc", "k", 1))
        three.hear(1, news((1, 1), *two.held))
        self.assertEqual(three.vector, vector(1, 1))
        self.assertEqual(three.knowing.told, [vector(1), vector(1, 1), vector(1, 1)])
        self.assertEqual([three.heard(site) for site in range(3)], [vector(1), vector(1, 1), vector(1, 1)])

    def test_news_twice(self):
        one, two = sites(2)
        one.write(("inc", "k", 1))
        said = one.news_for(1)
        two.hear(0, said)
        state = state_of(two)
        two.hear(0, said)
        self.assertEqual(state_of(two), state)
        self.assertEqual(two.counter("k"), 1)

    def test_old_news(self):
        one, two = sites(2)
        old = one.news_for(1)
        one.write(("inc", "k", 1))
        older = one.news_for(1)
        one.write(("inc", "k", 1))
        tell(one, two)
        state = state_of(two)
        two.hear(0, older)
        two.hear(0, old)
        self.assertEqual(state_of(two), state)

    def test_events_wait_for_others(self):
        events = [event(0, n, (n - 1,), n, ("inc", "k", n)) for n in range(1, 5)]
        one, two = sites(2)
        two.hear(0, news((4,), events[3]))
        two.hear(0, news((4,), events[1], events[3], events[1]))
        self.assertEqual((two.vector, two.held, two.waiting), (NO_VECTOR, [], [events[3], events[1]]))
        self.assertEqual(two.fresh(), [])
        two.hear(0, news((1,), events[0]))
        self.assertEqual((two.vector, two.held, two.waiting), (vector(2), events[:2], [events[3]]))
        two.hear(0, news((4,), *events))
        self.assertEqual((two.vector, two.held, two.waiting), (vector(4), events, []))
        self.assertEqual(two.fresh(), events)

    def test_events_wait_for_what_their_writer_knew(self):
        one, two, three = sites(3)
        one.write(("inc", "k", 1))
        tell(one, two)
        two.write(("inc", "k", 2))
        three.hear(1, news((1, 1), two.held[1]))
        self.assertEqual((three.vector, three.waiting), (NO_VECTOR, [two.held[1]]))
        three.hear(0, news((1,), one.held[0]))
        self.assertEqual((three.vector, three.waiting), (vector(1, 1), []))

    def test_the_first_that_can_be_taken_goes_first(self):
        first = [event(0, 1, (), 1, ("inc", "k", 1)), event(0, 2, (1,), 2, ("inc", "k", 1))]
        second = [event(1, 1, (), 1, ("inc", "k", 1)), event(1, 2, (1, 1), 2, ("inc", "k", 1))]
        three = Site(2, 3, (0, 1, 2))
        three.hear(1, news((1, 2), second[1], second[0], first[1], first[0]))
        self.assertEqual(three.held, [second[0], first[0], second[1], first[1]])

    def test_the_own_events_come_back(self):
        one, two = sites(2)
        one.write(("inc", "k", 1))
        tell(one, two)
        two.write(("inc", "k", 1))
        one.hear(1, news((1, 1), *two.held))
        self.assertEqual(one.held, [event(0, 1, (), 1, ("inc", "k", 1)), event(1, 1, (1,), 2, ("inc", "k", 1))])

    def test_a_vector_with_more_than_the_events_is_heard_and_not_told(self):
        two = Site(1, 2, (0, 1))
        two.hear(0, news((3, 0)))
        self.assertEqual((two.heard(0), two.knowing.told[0]), (vector(3), NO_VECTOR))
        two.hear(0, news((1, 0), event(0, 1, (), 1, ("inc", "k", 1))))
        self.assertEqual((two.heard(0), two.knowing.told[0]), (vector(3), vector(1)))

    def test_the_vector_is_told_behind_taking(self):
        one, two = sites(2)
        two.write(("inc", "k", 1))
        tell(two, one)
        one.write(("inc", "k", 1))
        two.write(("inc", "k", 1))
        tell(two, one)
        # The event of site 0 makes site 1 hear of more than its own events told.
        tell(one, two)
        two.write(("inc", "k", 1))
        tell(two, one)
        self.assertEqual(one.knowing.told[1], vector(1, 3))
        one.write(("inc", "k", 1))
        tell(one, two)
        one.hear(1, two.news_for(0))
        self.assertEqual(one.knowing.told[1], vector(2, 3))

    def test_the_news_are_not_kept(self):
        one, two = sites(2)
        one.write(("inc", "k", 1))
        said = one.news_for(1)
        two.hear(0, said)
        two.held.append("more")
        two.waiting.append("more")
        self.assertEqual(said, ("news", vector(1), (event(0, 1, (), 1, ("inc", "k", 1)),)))
        self.assertEqual(len(one.held), 1)


class Heard(SiteTest):
    def test_of_one_that_begins(self):
        one, two = sites(3, (0, 1))
        one.admit(2)
        meet(one, two)
        two.write(("inc", "k", 1))
        two.hand(2)
        self.assertEqual(two.heard(2), vector(1, 2))
        tell(two, one)
        self.assertEqual((one.heard(2), one.heard(1), one.heard(0)), (vector(1, 2), vector(1, 2), vector(1, 2)))

    def test_vectors_are_joined(self):
        two = Site(1, 3, (0, 1, 2))
        two.hear(0, news((1, 0, 5)))
        two.hear(0, news((4, 0, 2)))
        self.assertEqual(two.heard(0), vector(4, 0, 5))
        two.hear(2, news((0, 0, 1)))
        self.assertEqual((two.heard(0), two.heard(2), two.heard(1)), (vector(4, 0, 5), vector(0, 0, 1), NO_VECTOR))

    def test_what_a_taken_event_tells_of_its_writer(self):
        two = Site(1, 4, (0, 1, 2, 3))
        rows = [event(3, 1, (), 1, ("inc", "k", 1)), event(0, 1, (0, 0, 0, 1), 2, ("inc", "k", 1))]
        two.hear(2, news((0, 0, 0, 0), *rows))
        self.assertEqual([two.heard(site) for site in range(4)],
                         [vector(1, 0, 0, 1), vector(1, 0, 0, 1), NO_VECTOR, vector(0, 0, 0, 1)])

    def test_an_event_that_waits_tells_nothing(self):
        two = Site(1, 3, (0, 1, 2))
        two.hear(0, news((), event(2, 1, (1,), 2, ("inc", "k", 1))))
        self.assertEqual(two.heard(2), NO_VECTOR)

    def test_take_hears(self):
        two = Site(1, 3, (0, 1, 2))
        two.take(event(2, 1, (), 1, ("inc", "k", 1)))
        two.take(event(0, 1, (0, 0, 1), 2, ("inc", "k", 1)))
        self.assertEqual([two.heard(site) for site in range(3)], [vector(1, 0, 1), vector(1, 0, 1), vector(0, 0, 1)])


class News(SiteTest):
    def test_the_first_twenty(self):
        one, two = sites(2)
        for at in range(45):
            one.write(("inc", "k", at))
        said = one.news_for(1)
        self.assertEqual(said, ("news", vector(45), tuple(one.held[:20])))
        two.hear(0, said)
        self.assertEqual((two.vector, two.heard(0), two.knowing.told[0]), (vector(20), vector(45), vector(20)))
        self.assertEqual(one.news_for(1), said)
        tell(two, one)
        self.assertEqual(one.news_for(1)[2], tuple(one.held[20:40]))
        tell(one, two)
        tell(two, one)
        self.assertEqual(one.news_for(1)[2], tuple(one.held[40:]))
        tell(one, two)
        tell(two, one)
        self.assertEqual(one.news_for(1), ("news", vector(45), ()))
        self.assertEqual(two.held, one.held)

    def test_what_was_heard_is_not_said_again(self):
        one, two, three = sites(3)
        for site in (one, two, three):
            site.write(("inc", "k", 1))
        tell(three, one)
        tell(two, one)
        self.assertEqual(one.news_for(1), ("news", vector(1, 1, 1), (one.held[0], one.held[1])))
        self.assertEqual(one.news_for(2), ("news", vector(1, 1, 1), (one.held[0], one.held[2])))

    def test_saying_changes_nothing(self):
        one, two = sites(2)
        one.write(("inc", "k", 1))
        state = state_of(one)
        one.news_for(1)
        self.assertEqual(state_of(one), state)


class Fresh(SiteTest):
    def test_asked_twice(self):
        one, two = sites(2)
        one.write(("inc", "k", 1))
        one.write(("inc", "k", 2))
        self.assertEqual(one.fresh(), one.held)
        self.assertEqual(one.fresh(), [])
        one.write(("inc", "k", 3))
        self.assertEqual(one.fresh(), one.held[2:])

    def test_behind_hearing(self):
        one, two = sites(2)
        one.write(("inc", "k", 1))
        one.write(("inc", "k", 1))
        two.write(("inc", "k", 1))
        tell(one, two)
        self.assertEqual(two.fresh(), [event(1, 1, (), 1, ("inc", "k", 1))] + one.held)
        tell(one, two)
        self.assertEqual(two.fresh(), [])

    def test_behind_take(self):
        one, two = sites(2)
        one.write(("inc", "k", 1))
        self.assertIsNone(two.take(one.held[0]))
        self.assertEqual(two.fresh(), [])
        self.assertEqual(two.held, one.held)

    def test_behind_fork(self):
        one, two = sites(2)
        one.write(("inc", "k", 1))
        self.assertEqual(one.fork().fresh(), [])
        self.assertEqual(len(one.fresh()), 1)

    def test_behind_forgetting(self):
        one, = sites(1)
        one.write(("inc", "k", 1))
        one.forget()
        self.assertEqual(one.fresh(), [event(0, 1, (), 1, ("inc", "k", 1))])

    def test_it_is_new(self):
        one, = sites(1)
        one.write(("inc", "k", 1))
        one.fresh().append("more")
        self.assertEqual((len(one.held), one.fresh()), (1, []))

    def test_an_ack(self):
        one, two, three = sites(3)
        one.retire(2, ())
        self.assertEqual(one.fresh(), one.held)
        self.assertEqual([e[4] for e in one.held], [("retire", 2, ()), ("ack", (2,))])
        tell(one, two)
        self.assertEqual([e[4] for e in two.fresh()], [("retire", 2, ()), ("ack", (2,)), ("ack", (2,))])


class Taking(SiteTest):
    def test_nothing_is_asked_and_nothing_is_written(self):
        one, two = sites(3, (0, 1))
        for op in (("retire", 1, (2,)), ("inc", "k", 1)):
            event_of_one = event(0, one.vector[0] + 1, one.vector, one.vector[0] + 1, op)
            one.take(event_of_one)
        self.assertEqual(one.vector, vector(2))
        self.assertEqual(one.knowing.retiring, (1,))
        self.assertIs(one.knowing.wants_ack(), True)
        # An event of a retiring site that is not wanted is taken, too.
        one.take(event(1, 1, (), 1, ("inc", "k", 1)))
        self.assertEqual((one.vector, one.counter("k")), (vector(2, 1), 2))
        self.assertIs(one.knowing.wants_ack(), True)
        # The next step writes the ack.
        one.write(("inc", "k", 1))
        self.assertEqual([e[4] for e in one.held[3:]], [("inc", "k", 1), ("ack", (1,))])

    def test_what_is_taken_waits_no_more(self):
        two = Site(1, 2, (0, 1))
        rows = [event(0, 1, (), 1, ("inc", "k", 1)), event(0, 2, (1,), 2, ("inc", "k", 1))]
        two.hear(0, news((2,), rows[1]))
        two.take(rows[0])
        self.assertEqual(two.waiting, [rows[1]])
        two.take(rows[1])
        self.assertEqual((two.waiting, two.held), ([], rows))


class Forgetting(SiteTest):
    def test_what_all_know(self):
        one, two = sites(2)
        one.write(("set", "k", 1))
        self.assertEqual(one.forget(), 0)
        meet(one, two)
        one.write(("set", "k", 2))
        self.assertEqual((one.stable(), one.cut()), (vector(1), vector(1)))
        self.assertEqual(one.forget(), 1)
        self.assertEqual((one.base.vector, one.base.registers), (vector(1), {"k": [((0, 1), 1)]}))
        self.assertEqual(one.held, [event(0, 2, (1,), 2, ("set", "k", 2))])
        self.assertEqual((one.latest("k"), one.vector), ([2], vector(2)))
        self.assertEqual(one.forget(), 0)

    def test_the_cut_is_less_than_what_is_stable(self):
        one, two = sites(2)
        two.write(("inc", "k", 1))
        one.write(("inc", "k", 1))
        meet(one, two, rounds=1)
        one.write(("inc", "k", 1))
        self.assertEqual((one.stable(), one.cut()), (vector(1, 1), vector(1, 1)))
        tell(one, two)
        self.assertEqual((two.stable(), two.cut()), (vector(2, 1), vector(2, 1)))
        # One that was written alone holds up those that its writer did not know.
        one, two, three = sites(3)
        for site in (one, two, three):
            site.write(("inc", "k", 1))
        tell(one, two, three)
        tell(two, one, three)
        one.write(("inc", "k", 1))
        two.write(("inc", "k", 1))
        tell(two, one)
        self.assertEqual((one.stable(), one.cut()), (NO_VECTOR, NO_VECTOR))
        three.write(("inc", "k", 1))
        tell(three, one)
        self.assertEqual((one.stable(), one.cut()), (vector(1, 1), NO_VECTOR))
        self.assertEqual(one.forget(), 0)

    def test_no_answer_changes(self):
        one, two = sites(2)
        for op in (("set", "k", 1), ("inc", "k", 1), ("add", "k", 1), ("insert", "k", None, "a"),
                   ("insert", "k", None, "b")):
            one.write(op)
        meet(one, two)

        def answers():
            return (one.latest("k"), one.heads("k"), one.counter("k"), one.members("k"), one.text("k"), one.places("k"))
        before = answers()
        self.assertEqual(before, ([1], [(0, 1)], 1, [1], "ba", [(0, 5), (0, 4)]))
        self.assertEqual(one.forget(), 5)
        self.assertEqual(one.held, [])
        self.assertEqual(answers(), before)

    def test_what_is_returned_is_new(self):
        one, = sites(1)
        for op in (("set", "k", 1), ("add", "k", 1), ("insert", "k", None, "a")):
            one.write(op)
        one.forget()
        before = state_of(one)
        for answer in (one.latest, one.heads, one.members, one.places):
            answer("k").append("more")
        self.assertEqual(state_of(one), before)


class Admitting(SiteTest):
    def test_admit(self):
        one, two = sites(4, (0, 1))
        self.assertEqual(one.admit(3), (0, 1))
        self.assertEqual(one.held, [event(0, 1, (), 1, ("admit", 3))])
        self.assertEqual((one.knowing.counting(), one.knowing.admit_of(3)), ((0, 1, 3), (0, 1)))

    def test_who_cannot_be_admitted(self):
        one, two = sites(5, (0, 1))
        one.admit(3)
        one.retire(4, ())
        for other in (0, 1, 3, 4, 5, 7, 8, 100, -1):
            self.assertRefused(OutOfRange, one, Site.admit, other)
        self.assertEqual(one.admit(2), (0, 4))

    def test_one_that_is_over(self):
        one, = sites(3, (0,))
        one.retire(2, ())
        self.assertEqual(one.knowing.over, (2,))
        self.assertRefused(OutOfRange, one, Site.admit, 2)


class Retiring(SiteTest):
    def test_retire_and_the_ack_behind_it(self):
        one, two, three = sites(4, (0, 1, 2))
        self.assertEqual(one.retire(2, (3,)), (0, 1))
        self.assertEqual(one.held, [event(0, 1, (), 1, ("retire", 2, (3,))), event(0, 2, (1,), 2, ("ack", (2,)))])
        self.assertEqual((one.knowing.retiring, one.knowing.over), ((2,), ()))
        tell(one, two)
        self.assertEqual((two.knowing.retiring, two.knowing.over), ((2,), (2,)))
        self.assertEqual(two.held[2:], [event(1, 1, (2,), 3, ("ack", (2,)))])
        tell(two, one)
        self.assertEqual(one.knowing.over, (2,))

    def test_one_that_is_retiring_already(self):
        one, two, three = sites(3)
        one.retire(2, ())
        state, fresh = state_of(one), one.fresh()
        self.assertIsNone(one.retire(2, ()))
        self.assertEqual((state_of(one), len(fresh), one.fresh()), (state, 2, []))

    def test_that_is_no_step(self):
        """An ack that is still wanted is not written, and waiting events of sites that are over do not go."""
        one, two, three = sites(3)
        one.take(event(0, 1, (), 1, ("retire", 2, ())))
        self.assertIs(one.knowing.wants_ack(), True)
        self.assertIsNone(one.retire(2, ()))
        self.assertIs(one.knowing.wants_ack(), True)
        self.assertEqual(one.vector, vector(1))

    def test_who_cannot_be_retired(self):
        one, two = sites(3, (0, 1))
        for other in (0, 3, 7, 8, -1):
            self.assertRefused(OutOfRange, one, Site.retire, other, ())

    def test_a_second_one_is_named_with_the_first(self):
        one, two, three, four = sites(4)
        one.retire(3, ())
        one.retire(1, ())
        self.assertEqual([e[4] for e in one.held],
                         [("retire", 3, ()), ("ack", (3,)), ("retire", 1, ()), ("ack", (1, 3))])

    def test_retired_ahead_of_all_else(self):
        one, two = sites(3, (0, 1))
        one.write(("insert", "k", None, "a"))
        two.retire(0, (2,))
        tell(two, one)
        self.assertEqual(one.knowing.retiring, (0,))
        for op in (("set", "k", 1), ("insert", "k", (5, 5), "a"), ("erase", "k", (0, 1)), ("insert", "k", (0, 1), "b")):
            self.assertRefused(Retired, one, Site.write, op)
        for other in (0, 1, 2, 9):
            self.assertRefused(Retired, one, Site.admit, other)
            self.assertRefused(Retired, one, Site.hand, other)
            self.assertRefused(Retired, one, Site.retire, other, ())
        self.assertEqual(one.text("k"), "a")

    def test_one_that_knows_itself_to_be_retiring_writes_no_ack(self):
        one, two, three = sites(3)
        two.retire(0, ())
        two.retire(2, ())
        tell(two, one)
        self.assertEqual((one.knowing.retiring, one.vector), ((0, 2), vector(0, 4)))

    def test_each_kind_of_step_writes_the_ack_that_is_wanted(self):
        def wanting():
            site = Site(0, 5, (0, 1, 2))
            site.take(event(1, 1, (), 1, ("retire", 2, ())))
            site.take(event(1, 2, (0, 1), 2, ("admit", 4)))
            site.take(event(2, 1, (0, 2), 3, ("inc", "k", 1)))
            return site
        steps = {"write": lambda site: site.write(("inc", "k", 1)), "admit": lambda site: site.admit(3),
                 "retire": lambda site: site.retire(1, ()), "hear": lambda site: site.hear(1, news((0, 2))),
                 "hand": lambda site: site.hand(4)}
        for word, step in steps.items():
            site = wanting()
            self.assertIs(site.knowing.wants_ack(), True)
            step(site)
            self.assertIs(site.knowing.wants_ack(), False, word)
            self.assertEqual(site.held[-1][4], ("ack", (1, 2) if word == "retire" else (2,)), word)
            self.assertEqual(site.fresh()[-1], site.held[-1])


class LostSites(SiteTest):
    def setUp(self):
        """Site 2 is lost; what it wrote last is known to none but to site 1, which is known to know it, or is not."""
        self.one, self.two, self.three, self.four = sites(4)
        for _ in range(3):
            self.three.write(("inc", "k", 1))
        self.rows = list(self.three.held)

    def test_events_that_are_wanted(self):
        self.two.hear(2, news((0, 0, 3), *self.rows))
        self.one.retire(2, ())
        tell(self.two, self.one)
        self.assertEqual((self.one.vector[2], self.one.waiting), (3, []))

    def test_events_that_are_not_wanted_wait(self):
        self.one.retire(2, ())
        self.one.hear(2, news((0, 0, 3), *self.rows))
        self.assertEqual((self.one.vector[2], self.one.waiting), (0, self.rows))
        # Somebody who is left tells that it has two of them.
        self.one.hear(1, news((0, 0, 2)))
        self.assertEqual((self.one.vector[2], self.one.waiting), (2, self.rows[2:]))
        # Of what a lost one tells it nobody knows more.
        self.one.retire(3, ())
        self.one.hear(3, news((0, 0, 3)))
        self.assertEqual((self.one.vector[2], self.one.waiting), (2, self.rows[2:]))

    def test_what_waits_goes_when_its_site_is_over(self):
        self.one.retire(2, ())
        self.one.hear(2, news((0, 0, 3), *self.rows))
        other = event(1, 5, (), 5, ("inc", "k", 1))
        self.one.hear(1, news((), other))
        self.assertEqual(self.one.waiting, self.rows + [other])
        tell(self.one, self.two, self.four)
        tell(self.two, self.one)
        self.assertEqual(self.one.waiting, self.rows + [other])
        tell(self.four, self.one)
        self.assertEqual((self.one.knowing.over, self.one.waiting), ((2,), [other]))

    def test_what_was_heard_behind_that_does_not_wait(self):
        self.one.retire(2, ())
        tell(self.one, self.two, self.four)
        tell(self.two, self.one)
        tell(self.four, self.one)
        self.assertEqual(self.one.knowing.over, (2,))
        self.one.hear(1, news((0, 0, 3), *self.rows))
        self.assertEqual((self.one.vector[2], self.one.waiting), (0, []))

    def test_what_is_waiting_goes_when_the_own_ack_is_the_last(self):
        self.two.retire(2, ())
        tell(self.two, self.four)
        self.one.hear(2, news((0, 0, 3), self.rows[2]))
        tell(self.two, self.one)
        self.assertEqual((self.one.knowing.over, self.one.waiting), ((), self.rows[2:]))
        tell(self.four, self.one)
        self.assertEqual((self.one.knowing.over, self.one.waiting), ((2,), []))


if __name__ == "__main__":
    unittest.main()
