"""Points [4], [13] and [17]: keys, values, signs, the order of values."""

import unittest

from partmeet.data.keys import KEY_SIGNS, MOST_VALUE, VALUE_SIGNS, is_key, is_sign, is_value, value_order

WRONG_KINDS = (None, True, False, (), ((),), ("a",), (1,), ("a", "b"), (None,), ((("a",),),))


class Constants(unittest.TestCase):
    def test_constants(self):
        self.assertEqual((KEY_SIGNS, VALUE_SIGNS, MOST_VALUE), (8, 20, 10 ** 15))


class Keys(unittest.TestCase):
    def test_lengths(self):
        for text, right in (("", False), ("a", True), ("abcdefgh", True), ("abcdefghi", False), ("a" * 100, False)):
            self.assertIs(is_key(text), right, text)

    def test_each_character(self):
        allowed = "abcdefghijklmnopqrstuvwxyz0123456789"
        for code in range(256):
            self.assertIs(is_key(chr(code)), chr(code) in allowed, code)
            self.assertIs(is_key("k" + chr(code) + "0"), chr(code) in allowed, code)

    def test_a_row_of_allowed_signs_that_is_not_in_order(self):
        self.assertIs(is_key("z0a9"), True)
        self.assertIs(is_key("aa"), True)
        self.assertIs(is_key("0"), True)

    def test_characters_that_only_look_right(self):
        for text in ("K", "k y", "k_", "k-", "\u00e9", "\u0660", "\uff41", "k\n"):
            self.assertIs(is_key(text), False, text)

    def test_wrong_kinds(self):
        for data in WRONG_KINDS + (0, 1, -1, 10 ** 18):
            self.assertIs(is_key(data), False, data)


class Values(unittest.TestCase):
    def test_integers_at_the_bounds(self):
        for size in (10 ** 15 - 1, 10 ** 15):
            self.assertIs(is_value(size), True, size)
            self.assertIs(is_value(-size), True, -size)
        for size in (10 ** 15 + 1, 10 ** 18):
            self.assertIs(is_value(size), False, size)
            self.assertIs(is_value(-size), False, -size)
        for number in (0, 1, -1):
            self.assertIs(is_value(number), True, number)

    def test_lengths_of_texts(self):
        for length, right in ((0, True), (1, True), (8, True), (9, True), (20, True), (21, False), (200, False)):
            self.assertIs(is_value("x" * length), right, length)

    def test_each_character(self):
        for code in list(range(256)) + [0x20ac, 0x10000]:
            right = 32 <= code <= 126 and code != 37
            self.assertIs(is_value(chr(code)), right, code)
            self.assertIs(is_value("a" + chr(code) + "b"), right, code)

    def test_wrong_kinds(self):
        for data in WRONG_KINDS:
            self.assertIs(is_value(data), False, data)


class Signs(unittest.TestCase):
    def test_lengths(self):
        for text, right in (("", False), ("a", True), ("ab", False), (" !", False), ("abc", False)):
            self.assertIs(is_sign(text), right, text)

    def test_each_character(self):
        for code in list(range(256)) + [0x20ac, 0x10000]:
            self.assertIs(is_sign(chr(code)), 32 <= code <= 126 and code != 37, code)

    def test_wrong_kinds(self):
        for data in WRONG_KINDS + (0, 1, 65):
            self.assertIs(is_sign(data), False, data)


class Order(unittest.TestCase):
    def test_the_example(self):
        self.assertEqual(value_order(["b", 3, "a", -1, 3]), [-1, 3, "a", "b"])

    def test_nothing(self):
        self.assertEqual(value_order([]), [])

    def test_integers_by_size(self):
        self.assertEqual(value_order([10, 9, -10, -9, 0, 10 ** 15, -10 ** 15]),
                         [-10 ** 15, -10, -9, 0, 9, 10, 10 ** 15])

    def test_texts_by_codes(self):
        self.assertEqual(value_order(["a", "B", "~", " ", "0", "_", "10", "9"]),
                         [" ", "0", "10", "9", "B", "_", "a", "~"])

    def test_a_text_that_another_one_begins_with(self):
        self.assertEqual(value_order(["ab", "abc", "", "a", "b", "aa"]), ["", "a", "aa", "ab", "abc", "b"])

    def test_integers_stand_ahead_of_texts(self):
        self.assertEqual(value_order(["", 5, "1", 1, "-3"]), [1, 5, "", "-3", "1"])

    def test_each_once(self):
        self.assertEqual(value_order([2, "2", 2, "2", "x", 2]), [2, "2", "x"])

    def test_the_list_stays(self):
        for values in ([], [1], [3, "a", 1, "a"]):
            before = list(values)
            found = value_order(values)
            found.append("more")
            self.assertEqual(values, before)
            self.assertIsNot(found, values)


if __name__ == "__main__":
    unittest.main()
