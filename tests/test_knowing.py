"""Points [5], [41] to [44], [46] to [49]: what a site knows of others."""

import unittest

from partmeet.data.vectors import NO_VECTOR
from partmeet.knowing.knowing import Knowing, knowing_of
from partmeet.knowing.shapes import is_knowing_data
from partmeet.packing.lines import pack, unpack
from tests.writers import Writer, event


def vector(*numbers):
    return numbers + (0,) * (8 - len(numbers))


class Talk:
    """Writers who write what a Knowing notes; each knows what it is let hear."""

    def __init__(self, *knowings):
        self.writers = [Writer(site) for site in range(8)]
        self.knowings = knowings

    def write(self, site, *op):
        """A site that knows all writes; all note it."""
        for other in self.writers:
            self.writers[site].hear(other)
        return self.write_alone(site, *op)

    def write_alone(self, site, *op):
        written = self.writers[site].write(op)
        for knowing in self.knowings:
            knowing.note(written)
        return written


class Present(unittest.TestCase):
    def test_at_first(self):
        knowing = Knowing(1, 4, (0, 1))
        self.assertEqual((knowing.number, knowing.size), (1, 4))
        self.assertEqual(knowing.told, [NO_VECTOR] * 4)
        self.assertEqual((knowing.present, knowing.retiring, knowing.over), ((0, 1), (), ()))
        self.assertEqual(knowing.counting(), (0, 1))
        self.assertEqual([knowing.admit_of(site) for site in range(4)], [None] * 4)
        self.assertEqual([knowing.ack_of(site) for site in range(4)], [()] * 4)
        self.assertEqual(knowing.stable(), NO_VECTOR)
        self.assertIs(knowing.wants_ack(), False)

    def test_a_site_is_present_for_itself(self):
        self.assertEqual(Knowing(2, 3, (0, 1)).present, (0, 1, 2))
        self.assertEqual(Knowing(0, 3, (2,)).present, (0, 2))
        self.assertEqual(Knowing(0, 1, (0,)).present, (0,))
        self.assertEqual(Knowing(7, 8, (0, 3, 7)).counting(), (0, 3, 7))

    def test_admit(self):
        knowing = Knowing(0, 4, (0, 1))
        self.assertIsNone(knowing.note(event(1, 1, (), 1, ("admit", 3))))
        self.assertEqual(knowing.present, (0, 1))
        self.assertEqual(knowing.counting(), (0, 1, 3))
        self.assertEqual(knowing.admit_of(3), (1, 1))
        self.assertIsNone(knowing.admit_of(2))

    def test_the_first_admit_that_was_taken_counts(self):
        knowing = Knowing(0, 4, (0, 1))
        knowing.note(event(1, 1, (), 1, ("admit", 3)))
        knowing.note(event(0, 1, (), 1, ("admit", 3)))
        knowing.note(event(1, 2, (1, 1), 2, ("admit", 3)))
        self.assertEqual(knowing.admit_of(3), (1, 1))

    def test_several_are_coming(self):
        knowing = Knowing(1, 4, (1,))
        knowing.note(event(1, 1, (), 1, ("admit", 3)))
        knowing.note(event(1, 2, (0, 1), 1, ("admit", 0)))
        self.assertEqual(knowing.counting(), (0, 1, 3))
        self.assertEqual((knowing.admit_of(0), knowing.admit_of(3)), ((1, 2), (1, 1)))

    def test_begin_behind_an_admit(self):
        knowing = Knowing(0, 4, (0, 1))
        knowing.note(event(1, 1, (), 1, ("admit", 2)))
        knowing.note(event(1, 2, (0, 1), 2, ("begin", 2)))
        self.assertEqual(knowing.present, (0, 1, 2))
        self.assertEqual(knowing.counting(), (0, 1, 2))
        self.assertIsNone(knowing.admit_of(2))

    def test_begin_without_an_admit_and_an_admit_behind(self):
        knowing = Knowing(0, 4, (0, 3))
        knowing.note(event(3, 1, (), 1, ("begin", 2)))
        self.assertEqual(knowing.present, (0, 2, 3))
        knowing.note(event(0, 1, (0, 0, 0, 1), 2, ("admit", 2)))
        self.assertEqual(knowing.present, (0, 2, 3))
        self.assertIsNone(knowing.admit_of(2))

    def test_an_admit_of_one_that_is_present(self):
        knowing = Knowing(2, 3, (0, 1))
        knowing.note(event(0, 1, (), 1, ("admit", 2)))
        knowing.note(event(0, 2, (1,), 2, ("admit", 1)))
        self.assertEqual((knowing.admit_of(2), knowing.admit_of(1)), (None, None))
        self.assertEqual(knowing.present, (0, 1, 2))

    def test_other_operations_leave_who_is_there(self):
        talk = Talk(Knowing(0, 4, (0, 1)))
        for op in (("set", "k", 2), ("inc", "k", 3), ("insert", "k", None, "a"), ("erase", "k", (0, 3)),
                   ("retire", 2, (3,)), ("ack", (2,))):
            talk.write(1, *op)
        self.assertEqual(talk.knowings[0].counting(), (0, 1))


class Told(unittest.TestCase):
    def test_of_the_writer_and_of_oneself(self):
        knowing = Knowing(0, 3, (0, 1, 2))
        knowing.note(event(1, 1, (), 1, ("inc", "k", 1)))
        self.assertEqual(knowing.told, [vector(0, 1), vector(0, 1), NO_VECTOR])
        knowing.note(event(2, 1, (), 1, ("inc", "k", 1)))
        self.assertEqual(knowing.told, [vector(0, 1, 1), vector(0, 1), vector(0, 0, 1)])
        knowing.note(event(2, 2, (0, 1, 1), 2, ("inc", "k", 1)))
        self.assertEqual(knowing.told, [vector(0, 1, 2), vector(0, 1), vector(0, 1, 2)])
        knowing.note(event(0, 1, (0, 1, 2), 3, ("inc", "k", 1)))
        self.assertEqual(knowing.told, [vector(1, 1, 2), vector(0, 1), vector(0, 1, 2)])

    def test_it_is_joined_with_what_it_was(self):
        knowing = Knowing(0, 3, (0, 1, 2))
        knowing.note(event(2, 1, (), 1, ("inc", "k", 1)))
        knowing.tell(1, vector(0, 0, 1))
        knowing.note(event(1, 1, (), 1, ("inc", "k", 1)))
        self.assertEqual(knowing.told[1], vector(0, 1, 1))
        knowing.note(event(0, 1, (0, 1, 1), 1, ("inc", "k", 1)))
        knowing.tell(1, vector(1, 1))
        self.assertEqual(knowing.told[1], vector(1, 1, 1))

    def test_of_one_that_begins(self):
        knowing = Knowing(0, 4, (0, 1))
        knowing.note(event(1, 1, (), 1, ("admit", 3)))
        knowing.note(event(0, 1, (0, 1), 2, ("inc", "k", 1)))
        self.assertEqual(knowing.told[3], NO_VECTOR)
        knowing.note(event(1, 2, (1, 1), 3, ("begin", 3)))
        self.assertEqual(knowing.told, [vector(1, 2), vector(1, 2), NO_VECTOR, vector(1, 2)])

    def test_of_one_that_comes_the_stable_vector_ahead(self):
        knowing = Knowing(0, 3, (0,))
        knowing.note(event(0, 1, (), 1, ("inc", "k", 1)))
        knowing.note(event(0, 2, (1,), 2, ("admit", 2)))
        self.assertEqual(knowing.told, [vector(2), NO_VECTOR, vector(1)])
        self.assertEqual(knowing.stable(), vector(1))
        knowing.note(event(0, 3, (2,), 3, ("admit", 1)))
        self.assertEqual(knowing.told, [vector(3), vector(1), vector(1)])

    def test_a_second_admit_tells_nothing(self):
        knowing = Knowing(0, 3, (0,))
        knowing.note(event(0, 1, (), 1, ("admit", 2)))
        self.assertEqual(knowing.told[2], NO_VECTOR)
        knowing.tell(2, vector(1))
        knowing.note(event(0, 2, (1,), 2, ("admit", 2)))
        self.assertEqual(knowing.told[2], vector(1))
        knowing.note(event(0, 3, (2,), 3, ("admit", 0)))
        self.assertEqual(knowing.told, [vector(3), NO_VECTOR, vector(1)])

    def test_the_order_of_the_cases(self):
        """The stable vector ahead of the event is told, not the one behind it."""
        knowing = Knowing(1, 3, (0, 1))
        knowing.note(event(0, 1, (), 1, ("inc", "k", 1)))
        knowing.note(event(1, 1, (1,), 2, ("inc", "k", 1)))
        # Behind this one (1, 1) is stable, too.
        knowing.note(event(0, 2, (1, 1), 3, ("admit", 2)))
        self.assertEqual(knowing.told, [vector(2, 1), vector(2, 1), vector(1)])
        self.assertEqual(knowing.stable(), vector(1))

    def test_a_message(self):
        knowing = Knowing(0, 2, (0, 1))
        knowing.note(event(0, 1, (), 1, ("inc", "k", 1)))
        knowing.note(event(1, 1, (), 1, ("inc", "k", 1)))
        self.assertIsNone(knowing.tell(1, vector(1, 2)))
        self.assertEqual(knowing.told[1], vector(0, 1))
        knowing.tell(1, vector(1, 1))
        self.assertEqual(knowing.told[1], vector(1, 1))
        self.assertEqual(knowing.told[0], vector(1, 1))

    def test_a_message_with_a_number_that_is_less(self):
        knowing = Knowing(0, 2, (0, 1))
        for at in range(3):
            knowing.note(event(0, at + 1, (at,), at + 1, ("inc", "k", 1)))
        knowing.note(event(1, 1, (), 1, ("inc", "k", 1)))
        knowing.tell(1, vector(2))
        self.assertEqual(knowing.told[1], vector(2, 1))
        knowing.tell(1, vector(1))
        self.assertEqual(knowing.told[1], vector(2, 1))

    def test_the_own_number_of_the_receiver_plays_no_part_in_it(self):
        knowing = Knowing(0, 3, (0, 1, 2))
        knowing.tell(1, vector(5, 0, 7))
        self.assertEqual(knowing.told, [NO_VECTOR, vector(5, 0, 7), NO_VECTOR])


class Stable(unittest.TestCase):
    def test_the_least(self):
        knowing = Knowing(0, 3, (0, 1, 2))
        for at in range(4):
            knowing.note(event(0, at + 1, (at,), at + 1, ("inc", "k", 1)))
        knowing.tell(1, vector(3))
        self.assertEqual(knowing.stable(), NO_VECTOR)
        knowing.tell(2, vector(2))
        self.assertEqual(knowing.stable(), vector(2))
        knowing.tell(2, vector(4))
        self.assertEqual(knowing.stable(), vector(3))

    def test_the_own_vector_plays_a_part(self):
        knowing = Knowing(0, 2, (0, 1))
        knowing.tell(1, vector(5))
        self.assertEqual(knowing.stable(), NO_VECTOR)

    def test_alone(self):
        knowing = Knowing(0, 2, (0,))
        knowing.note(event(0, 1, (), 1, ("inc", "k", 1)))
        self.assertEqual(knowing.stable(), vector(1))

    def test_one_that_is_coming_and_one_that_is_absent(self):
        knowing = Knowing(0, 4, (0,))
        knowing.note(event(0, 1, (), 1, ("inc", "k", 1)))
        knowing.note(event(0, 2, (1,), 2, ("admit", 2)))
        knowing.note(event(0, 3, (2,), 3, ("inc", "k", 1)))
        self.assertEqual(knowing.stable(), vector(1))
        knowing.tell(2, vector(2))
        self.assertEqual(knowing.stable(), vector(2))

    def test_one_that_is_retiring_and_then_over(self):
        talk = Talk(Knowing(0, 3, (0, 1, 2)))
        knowing, = talk.knowings
        talk.write(0, "inc", "k", 1)
        talk.write(1, "retire", 2, ())
        self.assertEqual((knowing.retiring, knowing.over), ((2,), ()))
        self.assertEqual(knowing.stable(), NO_VECTOR)
        talk.write(0, "ack", (2,))
        talk.write(1, "ack", (2,))
        self.assertEqual((knowing.retiring, knowing.over), ((2,), (2,)))
        self.assertEqual(knowing.counting(), (0, 1, 2))
        self.assertEqual(knowing.stable(), vector(2, 2))

    def test_one_that_is_over_itself(self):
        talk = Talk(Knowing(0, 2, (0, 1)))
        knowing, = talk.knowings
        talk.write(0, "inc", "k", 1)
        talk.write(1, "retire", 0, ())
        talk.write(1, "ack", (0,))
        knowing.tell(1, vector(9, 2))
        self.assertEqual(knowing.over, (0,))
        self.assertEqual(knowing.stable(), vector(1, 2))


class Handing(unittest.TestCase):
    def coming(self, *talkers):
        """A Knowing of site 0 with sites 0, 1, 2 at first and 3 coming, its admit being (0, 1)."""
        talk = Talk(Knowing(0, 5, (0, 1, 2)))
        talk.write(0, "admit", 3)
        for site in talkers:
            talk.write(site, "inc", "k", 1)
        return talk

    def test_each_must_have_been_told(self):
        for talkers in ((), (1,), (2,), (1, 1)):
            self.assertIs(self.coming(*talkers).knowings[0].may_hand(3), False)
        self.assertIs(self.coming(1, 2).knowings[0].may_hand(3), True)

    def test_by_messages(self):
        knowing, = self.coming(1).knowings
        knowing.tell(2, vector(0, 1))
        self.assertIs(knowing.may_hand(3), False)
        knowing.tell(2, vector(1))
        self.assertIs(knowing.may_hand(3), True)

    def test_who_is_not_coming(self):
        knowing, = self.coming(1, 2).knowings
        self.assertEqual([knowing.may_hand(site) for site in range(5)], [False, False, False, True, False])
        knowing.note(event(1, 2, (1, 1, 1), 4, ("begin", 3)))
        self.assertIs(knowing.may_hand(3), False)

    def test_another_one_that_is_coming_need_not_know(self):
        talk = self.coming(1, 2)
        talk.write_alone(1, "admit", 4)
        self.assertEqual([talk.knowings[0].may_hand(site) for site in (3, 4)], [True, False])

    def test_one_that_began_must_know(self):
        talk = self.coming(1, 2)
        talk.write(0, "begin", 3)
        talk.write(1, "admit", 4)
        for site in (0, 1, 2):
            talk.write(site, "inc", "k", 1)
        self.assertIs(talk.knowings[0].may_hand(4), False)
        talk.write(3, "inc", "k", 1)
        self.assertIs(talk.knowings[0].may_hand(4), True)

    def test_one_that_is_over_need_not_know(self):
        talk = self.coming()
        talk.write(1, "retire", 2, (3, 4))
        talk.write(0, "ack", (2,))
        self.assertIs(talk.knowings[0].may_hand(3), False)
        talk.write(1, "ack", (2,))
        self.assertEqual(talk.knowings[0].over, (2,))
        self.assertIs(talk.knowings[0].may_hand(3), True)

    def test_one_that_is_retiring_is_not_handed(self):
        talk = self.coming(1, 2)
        talk.write(1, "retire", 3, ())
        self.assertEqual(talk.knowings[0].admit_of(3), (0, 1))
        self.assertIs(talk.knowings[0].may_hand(3), False)


class Acks(unittest.TestCase):
    def test_the_last_one_of_each_site_counts(self):
        talk = Talk(Knowing(0, 4, (0, 1, 2, 3)))
        knowing, = talk.knowings
        talk.write(0, "retire", 3, ())
        talk.write(1, "ack", (3,))
        self.assertEqual([knowing.ack_of(site) for site in range(4)], [(), (3,), (), ()])
        talk.write(0, "retire", 2, ())
        self.assertEqual(knowing.ack_of(1), (3,))
        talk.write(1, "ack", (2, 3))
        talk.write(0, "ack", (2, 3))
        self.assertEqual([knowing.ack_of(site) for site in range(4)], [(2, 3), (2, 3), (), ()])
        self.assertIsInstance(knowing.ack_of(0), tuple)

    def test_who_wants_one(self):
        talk = Talk(*[Knowing(site, 4, (0, 1, 2, 3)) for site in range(4)])

        def wanting():
            return [knowing.wants_ack() for knowing in talk.knowings]
        talk.write(0, "inc", "k", 1)
        self.assertEqual(wanting(), [False] * 4)
        talk.write(0, "retire", 3, ())
        self.assertEqual(wanting(), [True, True, True, False])
        talk.write(1, "ack", (3,))
        self.assertEqual(wanting(), [True, False, True, False])
        talk.write(1, "retire", 2, ())
        self.assertEqual(wanting(), [True, True, False, False])
        talk.write(1, "ack", (2, 3))
        talk.write(0, "ack", (2, 3))
        self.assertEqual(wanting(), [False] * 4)


class Over(unittest.TestCase):
    def assertOver(self, talk, *sites):
        for knowing in talk.knowings:
            self.assertEqual(knowing.over, sites)

    def test_all_that_are_left_must_ack(self):
        talk = Talk(Knowing(0, 4, (0, 1, 2, 3)))
        talk.write(1, "retire", 3, ())
        self.assertOver(talk)
        for site in (2, 1):
            talk.write(site, "ack", (3,))
            self.assertOver(talk)
        talk.write(0, "ack", (3,))
        self.assertOver(talk, 3)

    def test_oneself_among_these(self):
        talk = Talk(Knowing(0, 3, (0, 1, 2)))
        talk.write(0, "retire", 2, ())
        talk.write(1, "ack", (2,))
        self.assertOver(talk)
        talk.write(0, "ack", (2,))
        self.assertOver(talk, 2)

    def test_an_ack_of_the_lost_one_counts_for_nothing_and_none_is_needed(self):
        talk = Talk(Knowing(0, 3, (0, 1, 2)))
        talk.write(0, "retire", 1, ())
        talk.write(0, "retire", 2, ())
        talk.write(0, "ack", (1, 2))
        self.assertOver(talk, 1, 2)

    def test_the_acks_must_name_all(self):
        talk = Talk(Knowing(0, 4, (0, 1, 2, 3)))
        talk.write(0, "retire", 3, ())
        talk.write(1, "ack", (3,))
        talk.write(0, "retire", 2, ())
        talk.write(0, "ack", (2, 3))
        self.assertOver(talk)
        talk.write(1, "ack", (2, 3))
        self.assertOver(talk, 2, 3)

    def test_they_stay_so(self):
        talk = Talk(Knowing(0, 4, (0, 1, 2, 3)))
        talk.write(0, "retire", 3, ())
        for site in range(3):
            talk.write(site, "ack", (3,))
        self.assertOver(talk, 3)
        talk.write(0, "retire", 2, ())
        self.assertOver(talk, 3)
        talk.write(0, "admit", 1)
        talk.write(0, "ack", (2, 3))
        self.assertOver(talk, 3)
        talk.write(1, "ack", (2, 3))
        self.assertOver(talk, 2, 3)

    def test_no_site_is_left_to_ack(self):
        talk = Talk(Knowing(0, 2, (0, 1)))
        talk.write(0, "retire", 1, ())
        self.assertOver(talk)
        talk.write_alone(1, "retire", 0, ())
        self.assertOver(talk, 0, 1)

    def test_one_that_knows_itself_to_be_retiring_needs_no_own_ack(self):
        talk = Talk(Knowing(1, 2, (0, 1)))
        talk.write(0, "retire", 1, ())
        self.assertOver(talk)
        talk.write(0, "ack", (1,))
        self.assertOver(talk, 1)

    def test_one_that_is_absent_is_not_asked(self):
        talk = Talk(Knowing(0, 3, (0, 1)))
        talk.write(0, "retire", 1, ())
        talk.write(0, "ack", (1,))
        self.assertOver(talk, 1)

    def test_it_is_found_out_behind_a_retire_and_an_ack_alone(self):
        talk = Talk(Knowing(0, 4, (0, 1)))
        talk.write(0, "admit", 2)
        talk.write(0, "retire", 1, ())
        talk.write(0, "ack", (1,))
        self.assertOver(talk)
        talk.write(0, "inc", "k", 1)
        self.assertOver(talk)
        talk.write(0, "retire", 1, (2,))
        self.assertOver(talk, 1)


class Excused(unittest.TestCase):
    def over_behind(self, *ops, ack, first=(0, 1, 2)):
        """What is over for site 0, with sites 3 and 4 coming, when it has done all this and acked."""
        talk = Talk(Knowing(0, 5, first))
        for op in (("admit", 3), ("admit", 4)) + ops:
            talk.write(0, *op)
        talk.write(0, "ack", ack)
        return talk.knowings[0].over

    def test_each_that_is_coming_must_ack_or_be_excused(self):
        self.assertEqual(self.over_behind(("retire", 1, ()), ("retire", 2, ()), ack=(1, 2)), ())
        both = ("retire", 1, (3, 4)), ("retire", 2, (3, 4))
        self.assertEqual(self.over_behind(*both, ack=(1, 2)), (1, 2))

    def test_none_of_the_retiring_ones_may_have_handed_it(self):
        for absent in ((), (3,), (4,)):
            self.assertEqual(self.over_behind(("retire", 1, (3, 4)), ("retire", 2, absent), ack=(1, 2)), ())
            self.assertEqual(self.over_behind(("retire", 1, absent), ("retire", 2, (3, 4)), ack=(1, 2)), ())

    def test_all_that_several_events_tell_of_one_site(self):
        ops = ("retire", 1, (3,)), ("retire", 1, (4,))
        self.assertEqual(self.over_behind(*ops, ack=(1,), first=(0, 1)), (1,))
        ops = ("retire", 1, (3, 4)), ("retire", 1, ())
        self.assertEqual(self.over_behind(*ops, ack=(1,), first=(0, 1)), (1,))
        ops = ("retire", 1, (3,)), ("retire", 2, (4,))
        self.assertEqual(self.over_behind(*ops, ack=(1, 2)), ())

    def test_one_that_is_coming_and_retiring_itself(self):
        ops = ("retire", 3, ()), ("retire", 4, (3,))
        self.assertEqual(self.over_behind(*ops, ack=(3, 4), first=(0,)), (3, 4))

    def test_one_that_began_is_not_excused(self):
        ops = ("begin", 3), ("retire", 1, (3, 4))
        self.assertEqual(self.over_behind(*ops, ack=(1,), first=(0, 1)), ())
        ops = ("retire", 1, (0, 3, 4)),
        self.assertEqual(self.over_behind(*ops, ack=(1,), first=(0, 1)), (1,))

    def test_a_site_never_excuses_itself(self):
        """By data in which it is not present for itself; the document lets an image have such."""
        data = (0, 2, (1,), ((0, (1, 1)),), (NO_VECTOR, NO_VECTOR), (), (), ((), ()), ((), ()))
        knowing = knowing_of(data)
        knowing.note(event(0, 1, (0, 1), 2, ("retire", 1, (0,))))
        self.assertEqual(knowing.over, ())
        knowing.note(event(0, 2, (1, 1), 3, ("ack", (1,))))
        self.assertEqual(knowing.over, (1,))

    def test_one_that_is_coming_acks(self):
        talk = Talk(Knowing(0, 4, (0, 1)))
        talk.write(0, "admit", 3)
        talk.write(0, "retire", 1, ())
        talk.write(0, "ack", (1,))
        self.assertEqual(talk.knowings[0].over, ())
        talk.write(3, "ack", (1,))
        self.assertEqual(talk.knowings[0].over, (1,))


class Taking(unittest.TestCase):
    def setUp(self):
        """Site 0 knows site 3 to be retiring, and 2 as well; 4 is coming, 5 is absent."""
        talk = Talk(Knowing(0, 6, (0, 1, 2, 3)))
        talk.write(1, "retire", 3, ())
        talk.write(1, "retire", 2, ())
        talk.write(1, "admit", 4)
        self.knowing, = talk.knowings
        self.lost = event(3, 5, (0, 2), 4, ("inc", "k", 1))

    def assertTakes(self, taken, one, *heard_of):
        """Of some sites it was heard that they know a vector that has the fifth event of site 3."""
        heard = [vector(9, 9, 9, 5) if site in heard_of else vector(9, 9, 9, 4) for site in range(6)]
        before = list(heard)
        self.assertIs(self.knowing.may_take(one, heard), taken)
        self.assertEqual(heard, before)

    def test_events_of_sites_that_are_not_retiring(self):
        for site in (0, 1, 4, 5):
            self.assertTakes(True, event(site, 50, (0,) * site + (49,), 60, ("inc", "k", 1)))

    def test_events_that_are_wanted(self):
        self.assertTakes(True, self.lost, 1)
        self.assertTakes(True, self.lost, 4)
        self.assertTakes(True, self.lost, 0, 1, 2, 3, 4, 5)

    def test_events_that_are_not_wanted(self):
        self.assertTakes(False, self.lost)
        for site in (0, 2, 3, 5):
            self.assertTakes(False, self.lost, site)
        self.assertTakes(False, self.lost, 0, 2, 3, 5)
        self.assertTakes(False, event(3, 6, (0, 2, 0, 5), 4, ("inc", "k", 1)), 1, 4)
        self.assertTakes(True, event(3, 4, (0, 2, 0, 3), 4, ("inc", "k", 1)), 1)


def busy():
    """A Knowing that has something to tell in each part of its data."""
    talk = Talk(Knowing(0, 6, (0, 1, 2, 3)))
    talk.write(1, "admit", 5)
    talk.write(2, "admit", 4)
    talk.write(1, "retire", 3, (4, 5))
    for site in (0, 1, 2):
        talk.write(site, "ack", (3,))
    talk.write(1, "retire", 2, (5,))
    talk.knowings[0].tell(1, vector(1, 4, 2))
    return talk.knowings[0]


BUSY = (0, 6, (0, 1, 2, 3), ((4, (2, 1)), (5, (1, 1))),
        (vector(1, 4, 2), vector(1, 4, 2), vector(1, 3, 2), NO_VECTOR, NO_VECTOR, NO_VECTOR), (2, 3), (3,),
        ((3,), (3,), (3,), (), (), ()), ((), (), (5,), (4, 5), (), ()))


class Data(unittest.TestCase):
    def test_a_new_one(self):
        self.assertEqual(Knowing(1, 2, (0,)).as_data(),
                         (1, 2, (0, 1), (), (NO_VECTOR, NO_VECTOR), (), (), ((), ()), ((), ())))

    def test_a_busy_one(self):
        self.assertEqual(busy().as_data(), BUSY)
        self.assertIs(is_knowing_data(BUSY), True)

    def test_the_way_back(self):
        for data in (BUSY, Knowing(1, 2, (0,)).as_data(), Knowing(0, 8, (0, 7)).as_data()):
            knowing = knowing_of(unpack(pack(data)))
            self.assertIsInstance(knowing, Knowing)
            self.assertEqual(knowing.as_data(), data)
        knowing = knowing_of(BUSY)
        self.assertEqual((knowing.number, knowing.size, knowing.present), (0, 6, (0, 1, 2, 3)))
        self.assertEqual((knowing.retiring, knowing.over), ((2, 3), (3,)))
        self.assertEqual(knowing.told, list(BUSY[4]))
        self.assertEqual((knowing.counting(), knowing.admit_of(4)), ((0, 1, 2, 3, 4, 5), (2, 1)))
        self.assertEqual((knowing.ack_of(2), knowing.wants_ack()), ((3,), True))

    def test_it_goes_on(self):
        one, other = busy(), knowing_of(BUSY)
        for knowing in (one, other):
            knowing.note(event(1, 5, (1, 4, 2), 9, ("ack", (2, 3))))
            knowing.note(event(0, 2, (1, 5, 2), 10, ("ack", (2, 3))))
            knowing.note(event(0, 3, (2, 5, 2), 11, ("retire", 2, (4,))))
            knowing.tell(1, vector(3, 5, 2))
        self.assertEqual(one.as_data(), other.as_data())
        self.assertEqual(one.over, (2, 3))

    def test_forks(self):
        for change in (lambda knowing: knowing.note(event(1, 5, (1, 4, 2), 9, ("begin", 5))),
                       lambda knowing: knowing.note(event(1, 5, (1, 4, 2), 9, ("ack", (2, 3)))),
                       lambda knowing: knowing.note(event(1, 5, (1, 4, 2), 9, ("retire", 2, (4,)))),
                       lambda knowing: knowing.tell(2, vector(0, 4, 0)),
                       lambda knowing: knowing.told.append(NO_VECTOR)):
            knowing = busy()
            twin = knowing.fork()
            self.assertIsInstance(twin, Knowing)
            self.assertEqual(twin.as_data(), BUSY)
            change(twin)
            self.assertNotEqual(twin.as_data(), BUSY)
            self.assertEqual(knowing.as_data(), BUSY)
            twin = knowing.fork()
            change(knowing)
            self.assertEqual(twin.as_data(), BUSY)


if __name__ == "__main__":
    unittest.main()
