"""Points [5], [6], [58] and [59]: images of sites, what is handed, and forks."""

import unittest

from partmeet.data.vectors import NO_VECTOR
from partmeet.errors import Malformed, NotReady
from partmeet.packing.lines import pack, unpack
from partmeet.replica.replica import Site, site_of
from tests.sites import SiteTest, meet, news, sites, state_of, tell, vector
from tests.writers import event


def put(data, place, part):
    """Return a tuple with another part at one place."""
    return data[:place] + (part,) + data[place + 1:]


def busy():
    """A site that has something to tell in each part of its image, and some event that waits."""
    one, two, three, four = sites(5, (0, 1, 2, 3))
    for op in (("set", "k", 1), ("inc", "k", 2), ("add", "k", "x"), ("insert", "k", None, "a")):
        one.write(op)
    two.retire(3, (4,))
    meet(one, two, three)
    one.forget()
    two.admit(4)
    two.retire(2, ())
    two.write(("set", "k", 3))
    tell(two, one)
    one.hear(1, news((9, 9), event(1, 9, (1, 8), 20, ("inc", "k", 1))))
    return one


IMAGE = busy().image()


class Images(SiteTest):
    def test_a_new_site(self):
        site = Site(1, 3, (0, 1))
        self.assertEqual(site.image(), (site.base.as_data(), (), site.knowing.as_data(), (NO_VECTOR,) * 3))
        self.assertEqual(state_of(site_of(site.image())), state_of(site))

    def test_a_busy_one(self):
        site = busy()
        self.assertEqual(len(site.held) > 2 and len(site.base.texts) > 0 and len(site.waiting), 1)
        self.assertEqual(site.image(), (site.base.as_data(), tuple(site.held), site.knowing.as_data(),
                                        tuple(site.heard(other) for other in range(5))))

    def test_what_is_heard_of_the_site_itself_is_its_vector(self):
        one, two = sites(2)
        one.write(("inc", "k", 1))
        two.write(("inc", "k", 1))
        tell(one, two)
        self.assertEqual(two.image()[3], (vector(1), vector(1, 1)))
        two.take(event(0, 2, (1,), 2, ("inc", "k", 1)))
        self.assertEqual(two.image()[3], (vector(2), vector(2, 1)))
        two.write(("inc", "k", 1))
        self.assertEqual(two.image()[3], (vector(2), vector(2, 2)))

    def test_what_is_left_out(self):
        site = site_of(busy().image())
        self.assertEqual((site.waiting, site.fresh()), ([], []))

    def test_read_back(self):
        one, other = busy(), site_of(unpack(pack(IMAGE)))
        self.assertIsInstance(other, Site)
        self.assertEqual(other.image(), IMAGE)
        self.assertEqual((other.number, other.size, other.vector), (0, 5, one.vector))
        self.assertEqual((other.base.as_data(), other.held), (one.base.as_data(), one.held))
        self.assertEqual(other.knowing.as_data(), one.knowing.as_data())
        self.assertEqual([other.heard(site) for site in range(5)], [one.heard(site) for site in range(5)])
        self.assertEqual((other.stable(), other.cut()), (one.stable(), one.cut()))

    def test_it_goes_on(self):
        one, other = busy(), site_of(IMAGE)
        one.waiting.clear()
        one.fresh()
        for site in (one, other):
            site.write(("insert", "k", (0, 4), "b"))
            site.hear(1, news((4, 9), event(1, site.vector[1] + 1, site.vector, 30, ("add", "k", "y"))))
            site.retire(4, ())
            site.forget()
        self.assertEqual(state_of(one), state_of(other))
        self.assertEqual(one.fresh(), other.fresh())

    def test_its_vector_is_what_it_was_told_of_itself(self):
        knowing = put(IMAGE[2], 4, (vector(8, 8, 8),) + IMAGE[2][4][1:])
        site = site_of(put(IMAGE, 2, knowing))
        self.assertEqual((site.vector, site.heard(0)), (vector(8, 8, 8), vector(8, 8, 8)))
        self.assertEqual(site.image(), put(IMAGE, 2, knowing))

    def test_the_image_does_not_change_behind(self):
        site = busy()
        image = site.image()
        site.write(("set", "k", 9))
        self.assertEqual(image, IMAGE)
        other = site_of(image)
        other.write(("set", "k", 9))
        other.base.texts["k"].append("more")
        other.knowing.told.append("more")
        self.assertEqual(image, IMAGE)


class BadImages(unittest.TestCase):
    def assertBad(self, *bad):
        for data in bad:
            with self.assertRaises(Malformed, msg=data):
                site_of(data)

    def assertBadPart(self, place, *bad):
        self.assertBad(*[put(IMAGE, place, part) for part in bad])

    def assertBadKnowing(self, place, *bad):
        self.assertBadPart(2, *[put(IMAGE[2], place, part) for part in bad])

    def test_no_tuple_of_four(self):
        self.assertBad(None, 5, "image", (), IMAGE[:3], IMAGE + ((),), list(IMAGE), (IMAGE,), (None,) * 4, ((),) * 4)
        for place in range(4):
            self.assertBadPart(place, None, 0, "x", list(IMAGE[place]), (None,), (0,), ((),))
            if place != 1:
                self.assertBadPart(place, ())

    def test_the_base(self):
        base = IMAGE[0]
        self.assertBadPart(0, base[:5], put(base, 0, NO_VECTOR), put(base, 1, 0), put(base, 2, (("k", ()),)),
                           put(base, 3, (("k", 0),)), put(base, 4, (("K", (1,)),)),
                           put(base, 5, (("k", (((7, 1), "a"),)),)))

    def test_what_is_held(self):
        one = IMAGE[1][0]
        for bad in (one[:4], one + (1,), put(one, 0, 8), put(one, 1, 0), put(one, 2, one[2][:7]), put(one, 3, 0),
                    put(one, 4, ("set", "k")), put(one, 4, ("noop", "k", 1)), list(one), None):
            self.assertBadPart(1, (bad,), (one, bad), IMAGE[1] + (bad,))

    def test_no_tuple_of_nine(self):
        knowing = IMAGE[2]
        self.assertBadPart(2, knowing[:8], knowing + ((),), (None,) * 9)
        for place in range(9):
            self.assertBadKnowing(place, None, "x", -1, list(knowing[place:place + 1]), (None,), ("a",), ((None,),),
                                  (-1,))

    def test_number_and_size(self):
        self.assertBadKnowing(0, 5, 8, -1, True, (0,))
        self.assertBadKnowing(1, 0, -1, 4, 6, 9, True, (5,))
        small = Site(0, 1, (0,)).image()
        self.assertBad(put(small, 2, put(small[2], 1, 0)), put(small, 2, put(small[2], 0, 1)))
        self.assertBad(put(put(small, 2, (0, 0, (), (), (), (), (), (), ())), 3, ()))
        great = Site(7, 8, (7,)).image()
        nine = put(great[2], 1, 9)
        for place in (4, 7, 8):
            nine = put(nine, place, nine[place] + nine[place][:1])
        self.assertBad((great[0], great[1], nine, great[3] + great[3][:1]))

    def test_rows_of_sites(self):
        for place in (2, 5, 6):
            self.assertBadKnowing(place, (5,), (1, 0), (0, 0), (0, 1, 1), (0, 8), (0, None), (0, True), (0, -1), [0], 0)
        self.assertBadKnowing(2, ())
        self.assertBadKnowing(2, (0, 1, 2, 3, 4))

    def test_who_is_coming(self):
        self.assertEqual(IMAGE[2][3], ((4, (1, 3)),))
        self.assertBadKnowing(3, ((4, (1, 0)),), ((4, (5, 1)),), ((4, (8, 1)),), ((4, None),), ((4, 1, 3),), ((4,),),
                              ((5, (1, 3)),), ((3, (1, 3)),), ((0, (1, 3)),), ((4, (1, 3)), (4, (1, 3))), (4, (1, 3)),
                              ([4, (1, 3)],), ((4, [1, 3]),), [(4, (1, 3))], ((None, (1, 3)),), (((1, 3), 4),))
        fewer = put(IMAGE[2], 2, (0, 1, 2))
        for coming in (((4, (1, 3)), (3, (1, 4))), ((3, (1, 4)), (3, (1, 3))), ((3, (1, 4)), (4, (1, 0))),
                       ((3, (1, 4)), (2, (1, 3)))):
            self.assertBadPart(2, put(fewer, 3, coming))
        good = put(fewer, 3, ((3, (1, 4)), (4, (1, 3))))
        self.assertEqual(site_of(put(IMAGE, 2, good)).image(), put(IMAGE, 2, good))

    def test_rows_of_vectors(self):
        for rows in ((), (NO_VECTOR,) * 4, (NO_VECTOR,) * 6, (NO_VECTOR,) * 4 + (NO_VECTOR[:7],),
                     (None,) + (NO_VECTOR,) * 4, (NO_VECTOR,) * 4 + ((0, 0, 0, 0, 0, 0, 0, -1),), [NO_VECTOR] * 5,
                     NO_VECTOR, (list(NO_VECTOR),) * 5):
            self.assertBadKnowing(4, rows)
            self.assertBadPart(3, rows)

    def test_rows_of_rows(self):
        for place in (7, 8):
            self.assertBadKnowing(place, (), ((),) * 4, ((),) * 6, ((5,),) + ((),) * 4, ((),) * 4 + ((1, 0),),
                                  ((),) * 4 + ((2, 2),), (None,) + ((),) * 4, ((),) * 4 + ((8,),), [()] * 5, ([],) * 5,
                                  (0, 1, 2, 3, 4))


class UnusualImages(unittest.TestCase):
    def assertGood(self, image):
        site = site_of(image)
        self.assertEqual(site.image(), image)
        self.assertEqual(site.fork().image(), image)

    def test_the_site_itself_may_be_missing(self):
        self.assertGood(put(IMAGE, 2, put(IMAGE[2], 2, (1, 2))))
        self.assertGood(put(IMAGE, 2, put(IMAGE[2], 2, (3,))))

    def test_no_more_is_asked(self):
        """What is over need not be retiring; acks and absent ones may be any sites of the plan."""
        knowing = put(put(put(IMAGE[2], 5, ()), 6, (0, 4)), 7, ((0, 1, 2, 3, 4),) * 5)
        self.assertGood(put(IMAGE, 2, put(knowing, 8, ((0, 1, 2, 3, 4),) * 5)))
        self.assertGood(put(IMAGE, 2, put(IMAGE[2], 4, (vector(0, 0, 0, 0, 0, 0, 0, 9),) * 5)))
        self.assertGood(put(IMAGE, 3, (vector(0, 0, 0, 0, 0, 0, 0, 9),) * 5))
        self.assertGood(put(IMAGE, 1, IMAGE[1] + IMAGE[1]))

    def test_the_smallest_and_the_greatest_plan(self):
        self.assertGood(Site(0, 1, (0,)).image())
        self.assertGood(Site(7, 8, (0, 7)).image())


class Handing(SiteTest):
    def ready(self):
        """Two sites, a third one that both know to be coming, and a fourth one that is absent."""
        one, two = sites(4, (0, 1))
        one.write(("set", "k", 3))
        one.admit(2)
        meet(one, two)
        return one, two

    def test_who_may_hand(self):
        one, two = sites(4, (0, 1))
        one.admit(2)
        self.assertIs(one.may_hand(2), False)
        self.assertRefused(NotReady, one, Site.hand, 2)
        tell(one, two)
        # Site 0 was told of by its own event, so site 1 knows enough already.
        self.assertEqual((one.may_hand(2), two.may_hand(2)), (False, True))
        tell(two, one)
        self.assertEqual((one.may_hand(2), two.may_hand(2)), (True, True))
        for other in (0, 1, 3, 4, 9, -1):
            self.assertIs(one.may_hand(other), False)
            self.assertRefused(NotReady, one, Site.hand, other)

    def test_what_is_handed(self):
        one, two = self.ready()
        one.forget()
        image = one.hand(2)
        self.assertEqual(one.vector, vector(3))
        self.assertEqual(one.held[-1], event(0, 3, (2,), 3, ("begin", 2)))
        self.assertEqual((one.knowing.present, one.knowing.admit_of(2)), ((0, 1, 2), None))
        self.assertEqual(image[:2], one.image()[:2])
        self.assertEqual(image[2], put(put(one.image()[2], 0, 2), 4, (vector(3), vector(2), vector(3), NO_VECTOR)))
        self.assertEqual(image[3], (vector(3), vector(2), vector(3), NO_VECTOR))
        three = site_of(image)
        self.assertEqual((three.number, three.size, three.vector), (2, 4, vector(3)))
        self.assertEqual((three.latest("k"), three.waiting, three.fresh()), ([3], [], []))
        self.assertEqual([three.heard(site) for site in range(4)], list(image[3]))
        self.assertEqual(three.knowing.present, (0, 1, 2))

    def test_behind_an_ack(self):
        """The ack that the step wants is written ahead of handing; all that is told of the new site has it."""
        one = Site(0, 4, (0, 1))
        one.take(event(0, 1, (), 1, ("admit", 2)))
        one.take(event(1, 1, (1,), 2, ("retire", 3, ())))
        image = one.hand(2)
        self.assertEqual([e[4] for e in one.held[2:]], [("begin", 2), ("ack", (3,))])
        self.assertEqual(image[1], tuple(one.held))
        self.assertEqual(image[2][4], (vector(3, 1), vector(1, 1), vector(3, 1), NO_VECTOR))
        self.assertEqual(image[3], (vector(3, 1), vector(1, 1), vector(3, 1), NO_VECTOR))
        # The new one has not acked itself, and does so behind its first step.
        three = site_of(image)
        self.assertIs(three.knowing.wants_ack(), True)
        three.hear(1, news((1, 1)))
        self.assertEqual(three.held[-1], event(2, 1, (3, 1), 5, ("ack", (3,))))

    def test_what_waits_is_not_handed(self):
        one, two = self.ready()
        one.hear(1, news((2, 9), event(1, 9, (2, 8), 20, ("inc", "k", 1))))
        self.assertEqual(len(one.waiting), 1)
        three = site_of(one.hand(2))
        self.assertEqual((len(one.waiting), three.waiting), (1, []))

    def test_the_new_one_and_the_old_one_go_their_own_ways(self):
        one, two = self.ready()
        image = one.hand(2)
        three, before = site_of(image), state_of(one)
        three.write(("set", "k", 4))
        three.base.registers["k"] = []
        self.assertEqual(state_of(one), before)
        self.assertEqual(site_of(image).latest("k"), [3])

    def test_handed_to_one_that_goes_on_writing_and_hearing(self):
        one, two = self.ready()
        two.write(("inc", "k", 5))
        three = site_of(one.hand(2))
        one.write(("inc", "k", 1))
        self.assertEqual(three.write(("inc", "k", 10)), (2, 1))
        self.assertEqual(three.held[-1], event(2, 1, (3,), 4, ("inc", "k", 10)))
        tell(three, two)
        self.assertEqual((two.counter("k"), two.heard(2), two.knowing.present), (15, vector(3, 0, 1), (0, 1, 2)))
        meet(one, two, three, rounds=3)
        self.assertEqual([site.counter("k") for site in (one, two, three)], [16] * 3)
        many = [site.forget() for site in (one, two, three)]
        self.assertEqual([site.held for site in (one, two, three)], [[]] * 3, many)
        self.assertEqual([site.base.as_data() for site in (two, three)], [one.base.as_data()] * 2)
        three.write(("set", "k", 6))
        meet(one, two, three)
        self.assertEqual([site.latest("k") for site in (one, two, three)], [[6]] * 3)


class Forks(SiteTest):
    def test_the_same_state(self):
        site = busy()
        twin = site.fork()
        self.assertIsInstance(twin, Site)
        self.assertEqual(state_of(twin), state_of(site))
        self.assertEqual(len(twin.waiting), 1)
        self.assertEqual(twin.fresh(), [])

    def test_each_goes_its_own_way(self):
        for change in (lambda site: site.write(("set", "k", 9)), lambda site: site.retire(1, ()),
                       lambda site: site.hear(1, news((4, 9), event(1, 8, (4, 7), 20, ("inc", "k", 1)))),
                       lambda site: site.held.append("more"), lambda site: site.waiting.clear(),
                       lambda site: site.base.texts["k"].append("more"), lambda site: site.knowing.tell(3, vector(1)),
                       lambda site: site.hear(3, news((0, 0, 0, 7)))):
            site = busy()
            before = state_of(site)
            twin = site.fork()
            change(twin)
            self.assertNotEqual(state_of(twin), before)
            self.assertEqual(state_of(site), before)
            twin = site.fork()
            change(site)
            self.assertEqual(state_of(twin), before)


if __name__ == "__main__":
    unittest.main()
