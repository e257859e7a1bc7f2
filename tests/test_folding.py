"""Points [5], [38] and [40]: folding."""

import random
import unittest

from partmeet.base.answers import counter, heads, latest, members, places, text
from partmeet.base.base import Base, base_of
from partmeet.base.folding import folded
from partmeet.data.vectors import NO_VECTOR
from partmeet.meaning.texts import places_of, text_of
from partmeet.meaning.values import counter_of, heads_of, members_of, register_of
from partmeet.packing.lines import pack, unpack
from tests.writers import KEYS, Writer, cuts_of, event, has, meeting_events


def answers(base, held, key):
    return [answer(base, held, key) for answer in (heads, latest, counter, members, places, text)]


def meant(events, key):
    return [answer(events, key) for answer in (heads_of, register_of, counter_of, members_of, places_of, text_of)]


class FoldingTest(unittest.TestCase):
    def fold(self, base, held, cut):
        """Fold, and see that what is passed stays."""
        data, before = base.as_data(), list(held)
        new, left = folded(base, held, cut)
        self.assertIsInstance(new, Base)
        self.assertIsNot(new, base)
        self.assertEqual((base.as_data(), held), (data, before))
        self.assertEqual(base_of(new.as_data()).as_data(), new.as_data())
        return new, left


class Examples(FoldingTest):
    def test_the_example(self):
        none = (0, 0, 0, 0, 0, 0, 0, 0)
        one = (1, 0, 0, 0, 0, 0, 0, 0)
        held = [(0, 1, none, 1, ("insert", "t", None, "A")), (1, 1, one, 2, ("insert", "t", (0, 1), "B"))]
        base, left = self.fold(Base(), held, one)
        self.assertEqual((base.texts, base.height, len(left)), ({"t": [((0, 1), "A")]}, 1, 1))
        self.assertEqual(text(base, left, "t"), "AB")

    def test_nothing(self):
        base, left = self.fold(Base(), [], NO_VECTOR)
        self.assertEqual((base.as_data(), left), (Base().as_data(), []))
        held = [event(0, 1, (), 1, ("set", "k", 1))]
        base, left = self.fold(Base(), held, NO_VECTOR)
        self.assertEqual((base.as_data(), left), (Base().as_data(), held))
        self.assertIsNot(left, held)

    def test_all(self):
        one = Writer(0)
        for op in (("set", "k", 1), ("inc", "k", 2), ("add", "k", "x"), ("insert", "k", None, "a"), ("admit", 1),
                   ("retire", 2, (1,)), ("ack", (2,)), ("begin", 1), ("set", "j", 0)):
            one.write(op)
        base, left = self.fold(Base(), one.known, one.vector())
        self.assertEqual(left, [])
        self.assertEqual(base.as_data(), ((9,) + (0,) * 7, 9, (("j", (((0, 9), 0),)), ("k", (((0, 1), 1),))),
                                          (("k", 2),), (("k", ("x",)),), (("k", (((0, 4), "a"),)),)))

    def test_events_that_tell_of_no_key_leave_the_vector_and_the_height(self):
        held = [event(0, 1, (), 1, ("admit", 1)), event(0, 2, (1,), 2, ("ack", (1,)))]
        base, left = self.fold(Base(), held, (2, 0, 0, 0, 0, 0, 0, 0))
        self.assertEqual(base.as_data(), ((2, 0, 0, 0, 0, 0, 0, 0), 2, (), (), (), ()))

    def test_a_part(self):
        one = Writer(0)
        for op in (("set", "k", 1), ("inc", "k", 2), ("add", "k", "x"), ("insert", "k", None, "a")):
            one.write(op)
        base, left = self.fold(Base(), one.known, (2, 0, 0, 0, 0, 0, 0, 0))
        self.assertEqual(left, one.known[2:])
        self.assertEqual(base.as_data(), ((2, 0, 0, 0, 0, 0, 0, 0), 2, (("k", (((0, 1), 1),)),), (("k", 2),), (), ()))

    def test_the_order_of_what_is_left(self):
        held = [event(2, 1, (2,), 3, ("set", "k", 5)), event(0, 3, (2,), 3, ("set", "k", 3)),
                event(0, 2, (1,), 2, ("set", "k", 2)), event(1, 1, (2,), 3, ("set", "k", 4)),
                event(0, 1, (), 1, ("set", "k", 1))]
        base, left = self.fold(Base(), held, (2, 0, 0, 0, 0, 0, 0, 0))
        self.assertEqual(left, [held[0], held[1], held[3]])
        self.assertEqual(base.registers, {"k": [((0, 2), 2)]})
        base, left = self.fold(Base(), list(reversed(held)), (2, 0, 0, 0, 0, 0, 0, 0))
        self.assertEqual(left, [held[3], held[1], held[0]])

    def test_the_height(self):
        held = [event(0, 1, (), 7, ("set", "k", 1)), event(1, 1, (), 4, ("set", "k", 1))]
        base, left = self.fold(Base(), held, (1, 1, 0, 0, 0, 0, 0, 0))
        self.assertEqual(base.height, 7)
        base, left = self.fold(base, [event(2, 1, (1, 1), 5, ("inc", "k", 1))], (1, 1, 1, 0, 0, 0, 0, 0))
        self.assertEqual(base.height, 7)
        base, left = self.fold(base, [event(2, 2, (1, 1, 1), 9, ("inc", "k", 1))], (1, 1, 2, 0, 0, 0, 0, 0))
        self.assertEqual(base.height, 9)


class NothingLeftOfAKey(FoldingTest):
    REGISTERS = (("k", (((0, 4), 1),)), ("m", (((0, 4), 2),)))
    BASE = base_of(((4, 0, 0, 0, 0, 0, 0, 0), 4, REGISTERS, (("k", 5), ("m", 1)), (("k", (1, "a")), ("m", (1,))),
                    (("k", (((0, 1), "a"), ((0, 2), "b"))), ("m", (((0, 3), "c"),)))))

    def test_keys_that_go(self):
        ops = (("inc", "k", -5), ("remove", "k", 1), ("remove", "k", "a"), ("erase", "k", (0, 2)),
               ("erase", "k", (0, 1)))
        held = [event(1, n, (4, n - 1), 4 + n, op) for n, op in enumerate(ops, 1)]
        base, left = self.fold(self.BASE, held, (4, 5, 0, 0, 0, 0, 0, 0))
        self.assertEqual(base.as_data(), ((4, 5, 0, 0, 0, 0, 0, 0), 9, self.REGISTERS, (("m", 1),), (("m", (1,)),),
                                          (("m", (((0, 3), "c"),)),)))

    def test_keys_that_never_come(self):
        ops = (("inc", "n", 0), ("inc", "n", 2), ("inc", "n", -2), ("add", "n", 1), ("remove", "n", 1),
               ("insert", "n", None, "a"), ("erase", "n", (1, 6)), ("remove", "o", 1))
        held = [event(1, n, (4, n - 1), 4 + n, op) for n, op in enumerate(ops, 1)]
        base, left = self.fold(self.BASE, held, (4, 8, 0, 0, 0, 0, 0, 0))
        self.assertEqual(base.as_data()[2:], self.BASE.as_data()[2:])

    def test_the_new_base_shares_nothing(self):
        data = self.BASE.as_data()
        new, left = self.fold(self.BASE, [event(1, 1, (4,), 5, ("inc", "k", 1))], (4, 1, 0, 0, 0, 0, 0, 0))
        for table in (new.registers, new.sets, new.texts):
            for key in table:
                table[key].append("more")
            table["new"] = ["more"]
        new.counters["m"] = 9
        self.assertEqual(self.BASE.as_data(), data)


class Guaranteed(FoldingTest):
    def assertMeans(self, base, held, events):
        for key in KEYS + ("none",):
            self.assertEqual(answers(base, held, key), meant(events, key))

    def test_each_cut_at_once(self):
        many = 0
        for seed in range(60):
            events = meeting_events(seed)
            for cut in cuts_of(events):
                base, left = self.fold(Base(), events, cut)
                gone = [e for e in events if has(cut, e[:2])]
                self.assertEqual(left, [e for e in events if not has(cut, e[:2])])
                self.assertEqual((base.vector, base.height), (cut, max([e[3] for e in gone], default=0)))
                self.assertMeans(base, left, events)
                self.assertMeans(base, [], gone)
                many += len(gone) > 0 and len(left) > 0
        self.assertGreater(many, 200)

    def test_several_steps_are_like_one(self):
        """Also from the data of the base between, and with what is left in another order."""
        many = 0
        for seed in range(60):
            chance = random.Random(seed)
            events = meeting_events(seed, steps=40, sites=4 if seed < 20 else 2)
            chance.shuffle(events)
            cuts = cuts_of(events)
            base, held, at = Base(), list(events), NO_VECTOR
            while cuts:
                cut = chance.choice(cuts[:4])
                base, held = self.fold(base_of(unpack(pack(base.as_data()))), held, cut)
                at_once, _ = self.fold(Base(), events, cut)
                self.assertEqual(base.as_data(), at_once.as_data())
                self.assertMeans(base, held, events)
                chance.shuffle(held)
                at = cut
                cuts = [cut for cut in cuts if cut != at and all(new >= old for new, old in zip(cut, at))]
                many += 1
            self.assertEqual(held, [])
        self.assertGreater(many, 200)


if __name__ == "__main__":
    unittest.main()
