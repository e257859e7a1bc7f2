"""Points [4], [5], [35] and [39]: bases, their fields and their data."""

import unittest

from partmeet.base.base import Base, base_of
from partmeet.data.vectors import NO_VECTOR
from partmeet.errors import Malformed
from partmeet.packing.lines import pack, unpack

VECTOR = (3, 2, 0, 0, 0, 0, 0, 9)
REGISTERS = (("a", (((0, 1), 5), ((0, 3), "x"), ((7, 2), -1))), ("k", (((1, 2), ""),)))
COUNTERS = (("c", -3), ("k", 10 ** 18))
SETS = (("k", (-1, 0, "", "a", "ab")), ("s", ("x",)))
TEXTS = (("k", (((7, 9), "b"), ((0, 2), " "), ((1, 1), "b"))), ("t", (((0, 1), "~"),)))
DATA = (VECTOR, 9, REGISTERS, COUNTERS, SETS, TEXTS)
EMPTY = (NO_VECTOR, 0, (), (), (), ())


def put(data, place, part):
    """Return data with another part at one place."""
    return data[:place] + (part,) + data[place + 1:]


class Fields(unittest.TestCase):
    def test_a_new_base(self):
        base = Base()
        self.assertEqual(base.vector, NO_VECTOR)
        self.assertEqual(base.height, 0)
        self.assertEqual([base.registers, base.counters, base.sets, base.texts], [{}, {}, {}, {}])
        self.assertEqual(base.as_data(), EMPTY)

    def test_new_bases_share_nothing(self):
        one, two = Base(), Base()
        one.registers["k"] = [((0, 1), 1)]
        one.counters["k"] = 1
        one.sets["k"] = [1]
        one.texts["k"] = [((0, 1), "a")]
        self.assertEqual(two.as_data(), EMPTY)

    def test_the_fields_of_a_base_of_data(self):
        base = base_of(DATA)
        self.assertIsInstance(base, Base)
        self.assertEqual(base.vector, VECTOR)
        self.assertEqual(base.height, 9)
        self.assertEqual(base.registers, {"a": [((0, 1), 5), ((0, 3), "x"), ((7, 2), -1)], "k": [((1, 2), "")]})
        self.assertEqual(base.counters, {"c": -3, "k": 10 ** 18})
        self.assertEqual(base.sets, {"k": [-1, 0, "", "a", "ab"], "s": ["x"]})
        self.assertEqual(base.texts, {"k": [((7, 9), "b"), ((0, 2), " "), ((1, 1), "b")], "t": [((0, 1), "~")]})

    def test_there_and_back(self):
        for data in (DATA, EMPTY):
            self.assertEqual(base_of(data).as_data(), data)
            self.assertEqual(unpack(pack(base_of(data).as_data())), data)

    def test_keys_are_ascending_in_data(self):
        base = base_of((VECTOR, 1, (), (), (), ()))
        for key in ("b", "a1", "a", "9", "ab"):
            base.registers[key] = [((0, 1), 1)]
            base.counters[key] = 1
            base.sets[key] = [1]
            base.texts[key] = [((0, 1), "a")]
        for table in base.as_data()[2:]:
            self.assertEqual([key for key, told in table], ["9", "a", "a1", "ab", "b"])

    def test_data_do_not_change_behind(self):
        base = base_of(DATA)
        base.registers["k"].append(((7, 1), 1))
        base.sets["s"].append("y")
        base.texts["t"].clear()
        base.counters["c"] = 0
        self.assertEqual(base_of(DATA).as_data(), DATA)
        data = base_of(DATA)
        told = data.as_data()
        data.sets["s"].append("y")
        self.assertEqual(told, DATA)


class Forks(unittest.TestCase):
    def test_the_same_contents(self):
        for data in (DATA, EMPTY):
            twin = base_of(data).fork()
            self.assertIsInstance(twin, Base)
            self.assertEqual(twin.as_data(), data)
            for field in ("registers", "sets", "texts"):
                for told in getattr(twin, field).values():
                    self.assertIsInstance(told, list)

    def test_they_do_not_change_one_another(self):
        base = base_of(DATA)
        twin = base.fork()
        for one, other in ((twin, base), (base.fork(), base), (base, base.fork())):
            for field in ("registers", "sets", "texts"):
                getattr(one, field)["k"].append("more")
                getattr(one, field)["new"] = ["more"]
                del getattr(one, field)[sorted(getattr(one, field))[0]]
            one.counters["k"] = 1
            del one.counters["c"]
            one.vector = NO_VECTOR
            one.height = 0
            self.assertEqual(other.as_data(), DATA)
            base = base_of(DATA)


class BadData(unittest.TestCase):
    def assertBad(self, *bad):
        for data in bad:
            with self.assertRaises(Malformed, msg=data):
                base_of(data)

    def assertBadAt(self, place, *bad):
        self.assertBad(*[put(DATA, place, part) for part in bad])

    def test_no_tuple_of_six(self):
        self.assertBad(None, 7, "base", (), (VECTOR,), DATA[:5], DATA + ((),), list(DATA), (DATA,), ((),) * 6)

    def test_other_things_in_the_place_of_any_part(self):
        for place in range(6):
            self.assertBadAt(place, None, -1, "x", (0,), (None,), ("a",), (("a",),), list(DATA[place:place + 1]))
        for place in (2, 3, 4, 5):
            self.assertBadAt(place, 0, 7, list(DATA[place]), (DATA[place],))

    def test_vectors(self):
        self.assertBadAt(0, VECTOR[:7], VECTOR + (0,), (-1,) + VECTOR[1:], (None,) + VECTOR[1:], ("3",) + VECTOR[1:],
                         (True,) + VECTOR[1:], ((3,),) + VECTOR[1:], list(VECTOR))

    def test_heights(self):
        self.assertBadAt(1, 0, -1, None, "9", (9,), True, False)
        self.assertBad((NO_VECTOR, 1, (), (), (), ()), (NO_VECTOR, -1, (), (), (), ()),
                       ((1,) + NO_VECTOR[1:], 0) + EMPTY[2:])
        self.assertBad((NO_VECTOR, None, (), (), (), ()), (NO_VECTOR, False, (), (), (), ()))

    def test_keys(self):
        for place in (2, 3, 4, 5):
            told = DATA[place][0][1]
            for key in ("", "abcdefghi", "A", "a b", "a-", 1, None, ("k",), "~", "a\n"):
                self.assertBadAt(place, ((key, told),))
            self.assertBadAt(place, (("b", told), ("a", told)), (("a", told), ("a", told)), (("ab", told), ("a", told)),
                             (("a", told), ("c", told), ("b", told)), (("a", told), ("9", told)))

    def test_rows_that_are_no_pairs(self):
        for place in (2, 3, 4, 5):
            told = DATA[place][0][1]
            self.assertBadAt(place, (("a", told, told),), (("a",),), ((),), (["a", told],), ("at",), (None,), (5,),
                             ("a", told))

    def test_lists_in_the_place_of_tuples(self):
        for place in (2, 4, 5):
            self.assertBadAt(place, (("a", list(DATA[place][0][1])),))
        self.assertBadAt(2, (("a", ([(0, 1), 5],)),), (("a", (([0, 1], 5),)),))
        self.assertBadAt(5, (("a", ([(0, 1), "x"],)),), (("a", (([0, 1], "x"),)),))

    def test_nothing_to_tell(self):
        for place in (2, 4, 5):
            self.assertBadAt(place, (("a", ()),), (("a", None),), (("a", 0),), (("a", ""),))
        self.assertBadAt(3, (("a", 0),), (("a", ()),), (("a", None),), (("a", "1"),), (("a", (1,)),), (("a", True),))

    def test_dots(self):
        bad = [(0, 4), (1, 3), (2, 1), (7, 10), (8, 1), (-1, 1), (0, 0), (0, -1), (0,), (0, 1, 1), None, 5, "a",
               ("0", 1), (0, "1"), (None, 1), (0, None), (True, 1), (0, True)]
        for dot in bad:
            self.assertBadAt(2, (("a", ((dot, 5),)),))
            self.assertBadAt(5, (("a", ((dot, "x"),)),))
            self.assertBadAt(2, (("a", (((0, 1), 5), (dot, 5))),))
            self.assertBadAt(5, (("a", (((0, 1), "x"), (dot, "x"))),))

    def test_pairs(self):
        for pair in (((0, 1),), ((0, 1), "x", "x"), (0, 1), None, 5, "ab", (), ("x", (0, 1))):
            self.assertBadAt(2, (("a", (pair,)),))
            self.assertBadAt(5, (("a", (pair,)),))

    def test_dots_of_registers_in_another_order_or_twice(self):
        for dots in (((0, 2), (0, 1)), ((1, 1), (0, 3)), ((0, 1), (0, 1)), ((0, 1), (1, 2), (1, 1)),
                     ((0, 1), (1, 1), (1, 1))):
            self.assertBadAt(2, (("a", tuple((dot, at) for at, dot in enumerate(dots))),))

    def test_dots_of_texts_twice(self):
        for dots in (((0, 1), (0, 1)), ((0, 1), (1, 1), (0, 1)), ((1, 2), (0, 1), (1, 2))):
            self.assertBadAt(5, (("a", tuple((dot, "x") for dot in dots)),))

    def test_values(self):
        for value in (None, 10 ** 15 + 1, -10 ** 15 - 1, "x" * 21, "\n", chr(37), True, (), (1,)):
            self.assertBadAt(2, (("a", (((0, 1), value),)),), (("a", (((0, 1), 5), ((0, 2), value))),))
            self.assertBadAt(4, (("a", (value,)),))
            self.assertBadAt(4, (("a", (1, value)),), (("a", (value, 1)),))

    def test_signs(self):
        for sign in (None, 1, "", "xx", "\n", chr(37), ("x",), True):
            self.assertBadAt(5, (("a", (((0, 1), sign),)),), (("a", (((0, 2), "x"), ((0, 1), sign))),))

    def test_members_in_another_order_or_twice(self):
        for values in ((2, 1), ("b", "a"), ("a", 1), (1, 1), ("a", "a"), (1, "a", "a"), (1, "a", 2), ("ab", "a"),
                       (10, 9), ("b", "a", "a")):
            self.assertBadAt(4, (("a", values),))


class UnusualData(unittest.TestCase):
    def assertGood(self, data):
        self.assertEqual(base_of(data).as_data(), data)
        self.assertEqual(base_of(unpack(pack(data))).as_data(), data)

    def test_a_dot_at_two_keys_and_in_a_register_and_a_text(self):
        self.assertGood(put(DATA, 2, (("a", (((0, 1), 5),)), ("b", (((0, 1), 5),)))))
        self.assertGood(put(DATA, 5, (("a", (((0, 1), "x"),)), ("b", (((0, 1), "y"),)))))
        self.assertGood((VECTOR, 1, (("a", (((0, 1), 5),)),), (), (), (("a", (((0, 1), "y"),)),)))

    def test_any_sum_but_0(self):
        for number in (1, -1, 10 ** 9 + 1, -10 ** 15 - 1, 10 ** 18, -10 ** 18):
            self.assertGood(put(DATA, 3, (("a", number),)))

    def test_sums_and_members_without_a_vector(self):
        self.assertGood((NO_VECTOR, 0, (), (("a", 5),), (("a", (1, "x")),), ()))

    def test_a_vector_without_keys(self):
        self.assertGood((VECTOR, 1, (), (), (), ()))
        self.assertGood(((0, 0, 0, 0, 0, 0, 0, 1), 10 ** 9, (), (), (), ()))

    def test_a_height_that_is_less_or_more_than_the_events(self):
        self.assertGood(put(DATA, 1, 1))
        self.assertGood(put(DATA, 1, 10 ** 18))

    def test_one_value_and_one_sign_again(self):
        self.assertGood((VECTOR, 1, (("a", (((0, 1), 5), ((0, 2), 5))),), (), (),
                         (("a", (((0, 2), "x"), ((0, 1), "x"))),)))

    def test_the_longest_that_may_be(self):
        self.assertGood((VECTOR, 1, (("abcdefg0", (((0, 1), 10 ** 15), ((0, 2), -10 ** 15), ((0, 3), "x" * 20))),), (),
                         (("0", (-10 ** 15, 10 ** 15, "x" * 20)),), ()))


if __name__ == "__main__":
    unittest.main()
