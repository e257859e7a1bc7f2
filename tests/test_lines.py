"""Points [5], [17] and [18]: packable data, lines and packs."""

import random
import unittest

from partmeet.errors import Malformed
from partmeet.packing.lines import MOST_DEPTH, MOST_INTEGER, pack, unpack


def codes(line):
    return [ord(sign) for sign in line]


def nest(depth, inner=None):
    """A row of tuples one in another, so many of them."""
    data = () if inner is None else (inner,)
    for _ in range(depth - 1):
        data = (data,)
    return data


def some_data(chance, depth):
    kind = chance.choice(["none", "integer", "text", "tuple", "tuple"] if depth else ["none", "integer", "text"])
    if kind == "none":
        return None
    if kind == "integer":
        return chance.choice([-1, 1]) * chance.choice([0, 1, 9, 10, 99, chance.randrange(10 ** 18), 10 ** 18])
    if kind == "text":
        return "".join(chance.choice(" ~';:()#09a-\"\\") for _ in range(chance.choice([0, 1, 2, 9, 10, 12])))
    return tuple(some_data(chance, depth - 1) for _ in range(chance.randrange(4)))


LINES = [
    (None, "~"), (0, "#0;"), (7, "#7;"), (-7, "#-7;"), (10, "#10;"), (-100, "#-100;"),
    (10 ** 18, "#1000000000000000000;"), (-10 ** 18, "#-1000000000000000000;"), (10 ** 18 - 1, "#999999999999999999;"),
    ("", "'0:"), ("a", "'1:a"), ("a b", "'3:a b"), ("abcdefghi", "'9:abcdefghi"), ("abcdefghij", "'10:abcdefghij"),
    ("x" * 123, "'123:" + "x" * 123), ("'1:a", "'4:'1:a"), ("~", "'1:~"), ("#0;", "'3:#0;"), ("()", "'2:()"),
    ("0", "'1:0"), ("12", "'2:12"), ("\"\\", "'2:\"\\"),
    ((), "()"), ((None,), "(~)"), ((None, -7, "a"), "(~#-7;'1:a)"), (((),), "(())"), (((), ()), "(()())"),
    ((1, (2, (3,)), "x"), "(#1;(#2;(#3;))'1:x)"), (("event", (0, 1)), "('5:event(#0;#1;))"),
]


class Packs(unittest.TestCase):
    def test_constants(self):
        self.assertEqual((MOST_DEPTH, MOST_INTEGER), (30, 10 ** 18))

    def test_the_examples(self):
        self.assertEqual(pack((None, -7, "a")), [40, 126, 35, 45, 55, 59, 39, 49, 58, 97, 41])
        self.assertEqual(unpack(pack(("x", (0,)))), ("x", (0,)))

    def test_lines(self):
        for data, line in LINES:
            self.assertEqual(pack(data), codes(line), data)

    def test_back(self):
        for data, line in LINES:
            back = unpack(codes(line))
            self.assertEqual(back, data)
            self.assertIs(type(back), type(data))

    def test_all_characters_of_texts(self):
        text = "".join(chr(code) for code in range(32, 127) if code != 37)
        self.assertEqual(pack(text), codes("'94:" + text))
        self.assertEqual(unpack(pack(text)), text)

    def test_any_data_come_back(self):
        chance = random.Random(5)
        packs = {}
        for _ in range(500):
            data = some_data(chance, 5)
            self.assertEqual(unpack(pack(data)), data)
            packs.setdefault(tuple(pack(data)), []).append(repr(data))
        for told in packs.values():
            self.assertEqual(len(set(told)), 1)

    def test_a_pack_is_a_new_list(self):
        first = pack(("a", 1))
        first.append(0)
        self.assertEqual(pack(("a", 1)), codes("('1:a#1;)"))

    def test_thirty_tuples_one_in_another(self):
        for depth in (1, 2, 29, 30):
            for inner in (None, 5, "x"):
                data = nest(depth, inner)
                self.assertEqual(unpack(pack(data)), data)
        self.assertEqual(pack(nest(30)), codes("(" * 30 + ")" * 30))

    def test_depth_is_counted_where_tuples_lie_one_in_another(self):
        data = (nest(29), nest(29), nest(29, 4), ())
        self.assertEqual(unpack(pack(data)), data)


class Beyond(unittest.TestCase):
    """Data somewhat beyond the limits have lines, which nothing packable has."""

    def test_integers(self):
        for number in (10 ** 18 + 1, 10 ** 19, 2 * 10 ** 18, 10 ** 40):
            for beyond in (number, -number):
                row = pack(beyond)
                self.assertEqual(row, codes("#" + str(beyond) + ";"))
                with self.assertRaises(Malformed):
                    unpack(row)
                with self.assertRaises(Malformed):
                    unpack(pack((beyond,)))

    def test_thirty_one_tuples(self):
        for depth in (31, 32, 40):
            row = pack(nest(depth))
            self.assertEqual(row, codes("(" * depth + ")" * depth))
            with self.assertRaises(Malformed):
                unpack(row)
        with self.assertRaises(Malformed):
            unpack(pack((nest(30),)))
        with self.assertRaises(Malformed):
            unpack(pack((1, "a", nest(30), 2)))


class NoPacks(unittest.TestCase):
    def assertMalformed(self, row):
        before = list(row)
        with self.assertRaises(Malformed):
            unpack(row)
        self.assertEqual(row, before)

    def test_an_empty_row(self):
        self.assertMalformed([])

    def test_cut_at_each_place(self):
        for _, line in LINES:
            for at in range(len(line)):
                self.assertMalformed(codes(line[:at]))

    def test_octets_behind_it(self):
        for _, line in LINES:
            for more in ("~", " ", "(", ")", ";", "0", "#", "'", "#0;", "'0:", line):
                self.assertMalformed(codes(line + more))
            for octet in (0, 10, 37, 127, 255):
                self.assertMalformed(codes(line) + [octet])

    def test_numbers(self):
        for line in ("#;", "#-;", "#-0;", "#00;", "#01;", "#-01;", "#-00;", "#000;", "#--1;", "#+1;", "# 1;", "#1 ;", "#1",
                     "#1_0;", "#1.0;", "#1-;", "#1-1;", "#a;", "#0x1;", "1;", "1", "-1;", "#~;", "#'1:1;", "##1;;", "#1:",
                     "#0;;", "#;0", "#-", "#"):
            self.assertMalformed(codes(line))
            self.assertMalformed(codes("(" + line + ")"))

    def test_long_numbers(self):
        for many in (20, 100, 5000, 20000):
            self.assertMalformed(codes("#" + "1" * many + ";"))
            self.assertMalformed(codes("#-" + "9" * many + ";"))
            self.assertMalformed(codes("#" + "0" * many + ";"))
            self.assertMalformed(codes("'" + "9" * many + ":a"))
            self.assertMalformed(codes("'" + "0" * many + "1:a"))

    def test_lengths(self):
        for line in ("'00:", "'01:a", "'001:a", "'2:a", "'10:abcdefghi", "'1:", "':", "':a", "'", "'a:a", "'-1:a", "'-0:",
                     "'+1:a", "' 1:a", "'1 :a", "'1_0:abcdefghij", "'1;a", "'1a", "'1.0:a", "'1", "'~:", "'999999999999:a"):
            self.assertMalformed(codes(line))
            self.assertMalformed(codes("(" + line))

    def test_a_length_that_is_too_small_or_takes_the_bracket(self):
        self.assertMalformed(codes("'1:ab"))
        self.assertMalformed(codes("'0:a"))
        self.assertMalformed(codes("('2:a)"))
        self.assertMalformed(codes("('3:a))"))

    def test_signs_that_no_text_has(self):
        for octet in list(range(32)) + [37] + list(range(127, 256)):
            self.assertMalformed([39, 49, 58, octet])
            self.assertMalformed([39, 51, 58, 97, octet, 98])
            self.assertMalformed([octet])
            self.assertMalformed([40, octet, 41])
            self.assertMalformed([35, octet, 59])
            self.assertMalformed([35, 49, octet, 59])

    def test_each_sign_alone(self):
        for octet in range(256):
            if octet != 126:
                self.assertMalformed([octet])

    def test_signs_that_begin_nothing(self):
        for sign in " !\"$&*+,-./0123456789:;<=>?@AZ[\\]^_`az{|}":
            self.assertMalformed(codes(sign))
            self.assertMalformed(codes("(" + sign + ")"))
            self.assertMalformed(codes("(~" + sign + "~)"))

    def test_brackets(self):
        for line in ("(", ")", "((", "(()", "())", ")(", "(~", "(~))", "~)", "(#1;", "(~,~)", "(~ ~)", "[]", "()()",
                     "(()()", "(" * 30 + ")" * 29, "(" * 30, "(" * 30 + ")" * 31):
            self.assertMalformed(codes(line))

    def test_very_many_brackets(self):
        for many in (31, 1000, 50000):
            self.assertMalformed(codes("(" * many))
            self.assertMalformed(codes("(" * many + ")" * many))
            self.assertMalformed(codes(")" * many))

    def test_numbers_that_are_no_octets(self):
        for number in (-1, -126, 256, 382, 10 ** 6):
            self.assertMalformed([number])

    def test_any_row_is_a_pack_or_malformed(self):
        chance = random.Random(9)
        for _ in range(20000):
            row = [ord(chance.choice("~#';:()-0019a ")) for _ in range(chance.randrange(1, 9))]
            try:
                data = unpack(row)
            except Malformed:
                continue
            self.assertEqual(pack(data), row)

    def test_the_row_stays(self):
        row = codes("(#1;'1:a)")
        before = list(row)
        self.assertEqual(unpack(row), (1, "a"))
        self.assertEqual(row, before)


if __name__ == "__main__":
    unittest.main()
