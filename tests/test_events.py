"""Points [4], [15], [16] and [17]: operations and events, the past of an event."""

import unittest

from partmeet.data.events import MOST_NUMBER, dot_of, is_client_op, is_event, is_op, past_has
from partmeet.data.vectors import NO_VECTOR, raised

CLIENT_OPS = [
    ("set", "k", 0), ("set", "k", ""), ("set", "abcdefgh", "x" * 20), ("set", "0", 10 ** 15), ("set", "k", -10 ** 15),
    ("inc", "k", 0), ("inc", "k", 10 ** 9), ("inc", "k", -10 ** 9), ("inc", "k", 10 ** 9 - 1),
    ("add", "k", 1), ("add", "k", "one"), ("remove", "k", 1), ("remove", "k", "one"),
    ("insert", "k", None, "a"), ("insert", "k", (0, 1), " "), ("insert", "k", (7, 2000), "~"),
    ("erase", "k", (0, 1)), ("erase", "k", (7, 9)),
]
PLAN_OPS = [
    ("admit", 0), ("admit", 7), ("begin", 0), ("begin", 7),
    ("retire", 0, ()), ("retire", 7, (0,)), ("retire", 3, (0, 1, 2, 4, 5, 6, 7)), ("retire", 0, (7,)),
    ("ack", (0,)), ("ack", (7,)), ("ack", (0, 1, 2, 3, 4, 5, 6, 7)), ("ack", (2, 5)),
]
WRONG_OPS = [
    # The bounds of point [13] and [15].
    ("set", "k", 10 ** 15 + 1), ("set", "k", -10 ** 15 - 1), ("set", "k", "x" * 21), ("set", "k", "\u00e9"),
    ("set", "k", chr(37)), ("add", "k", 10 ** 15 + 1), ("remove", "k", "x" * 21),
    ("inc", "k", 10 ** 9 + 1), ("inc", "k", -10 ** 9 - 1), ("inc", "k", 10 ** 15), ("inc", "k", "1"), ("inc", "k", ""),
    ("set", "", 0), ("set", "abcdefghi", 0), ("set", "K", 0), ("inc", "", 1), ("add", "a b", 1), ("erase", "", (0, 1)),
    ("insert", "", None, "a"), ("insert", "k", None, ""), ("insert", "k", None, "ab"), ("insert", "k", None, chr(37)),
    ("insert", "k", (8, 1), "a"), ("insert", "k", (-1, 1), "a"), ("insert", "k", (0, 0), "a"), ("insert", "k", (), "a"),
    ("insert", "k", (0, 1, 1), "a"), ("insert", "k", 0, "a"), ("insert", "k", "", "a"),
    ("insert", "k", "a", (0, 1)), ("erase", "k", None), ("erase", "k", (0, 0)), ("erase", "k", (8, 1)),
    ("erase", "k", "a"), ("erase", "k", ((0, 1),)),
    # Sites.
    ("admit", -1), ("admit", 8), ("begin", -1), ("begin", 8), ("retire", -1, ()), ("retire", 8, ()),
    ("retire", 0, (0,)), ("retire", 3, (1, 3)), ("retire", 0, (2, 1)), ("retire", 0, (1, 1)), ("retire", 0, (1, 8)),
    ("retire", 0, (-1, 1)), ("retire", 0, 1), ("retire", 0, None), ("retire", 0, ""), ("retire", 0, ("1",)),
    ("ack", ()), ("ack", (8,)), ("ack", (-1,)), ("ack", (1, 0)), ("ack", (1, 1)), ("ack", (0, 1, 1)), ("ack", 1),
    ("ack", None), ("ack", "1"), ("ack", ("1",)), ("ack", (None, 1)), ("ack", ((1,),)), ("ack", (1, None)),
    # Words.
    ("", "k", 0), ("SET", "k", 0), ("put", "k", 0), (None, "k", 0), (0, "k", 0), (("set",), "k", 0), ("k", "set", 0),
    ("admit", "k"), ("begin", None), ("set", 0), ("insert", 0), ("ack", "k", 0), ("admit", "k", 0), ("retire", "k", ()),
    (("set", "k", 0),), (("admit", 0),), ("set",), ("ack",), (), ((),),
]


class Operations(unittest.TestCase):
    def test_constants(self):
        self.assertEqual(MOST_NUMBER, 10 ** 9)

    def test_right_ones(self):
        for op in CLIENT_OPS:
            self.assertIs(is_op(op), True, op)
            self.assertIs(is_client_op(op), True, op)
        for op in PLAN_OPS:
            self.assertIs(is_op(op), True, op)
            self.assertIs(is_client_op(op), False, op)

    def test_wrong_ones(self):
        for op in WRONG_OPS:
            self.assertIs(is_op(op), False, op)
            self.assertIs(is_client_op(op), False, op)

    def test_an_item_more_or_less(self):
        for op in CLIENT_OPS + PLAN_OPS:
            for wrong in (op[:-1], op[1:], op + (None,), op + (0,), op + ("a",), op + ((),), (None,) + op, (op,)):
                self.assertIs(is_op(wrong), False, wrong)
                self.assertIs(is_client_op(wrong), False, wrong)

    def test_wrong_kinds(self):
        for data in (None, True, False, 0, 1, -1, "", "set", "k"):
            self.assertIs(is_op(data), False, data)
            self.assertIs(is_client_op(data), False, data)

    def test_wrong_kinds_of_items(self):
        for op in CLIENT_OPS + PLAN_OPS:
            for at in range(1, len(op)):
                for item in (True, False, ((),), (None,), (True,), (False, 1), (((0, 1),),)):
                    wrong = op[:at] + (item,) + op[at + 1:]
                    self.assertIs(is_op(wrong), False, wrong)
                    self.assertIs(is_client_op(wrong), False, wrong)

    def test_truth_values_within_dots_and_sites(self):
        for wrong in (("erase", "k", (True, 1)), ("erase", "k", (0, True)), ("insert", "k", (False, 1), "a"),
                      ("ack", (False, 1)), ("ack", (0, True)), ("retire", 0, (True,)), ("retire", True, ())):
            self.assertIs(is_op(wrong), False, wrong)


class Events(unittest.TestCase):
    def test_right_ones(self):
        for op in CLIENT_OPS + PLAN_OPS:
            self.assertIs(is_event((0, 1, NO_VECTOR, 1, op)), True, op)
        self.assertIs(is_event((7, 3, (9, 0, 0, 0, 0, 0, 0, 2), 12, ("inc", "k", 1))), True)
        self.assertIs(is_event((2, 10 ** 18, raised(NO_VECTOR, (2, 10 ** 18 - 1)), 10 ** 18, ("inc", "k", 1))), True)

    def test_wrong_operations(self):
        for op in WRONG_OPS + [None, True, False, 0, "set"]:
            self.assertIs(is_event((0, 1, NO_VECTOR, 1, op)), False, op)

    def test_sites(self):
        for site in (-1, 8):
            self.assertIs(is_event((site, 1, NO_VECTOR, 1, ("inc", "k", 1))), False, site)
        for site in range(8):
            self.assertIs(is_event((site, 1, NO_VECTOR, 1, ("inc", "k", 1))), True, site)

    def test_numbers(self):
        for n in (0, -1):
            self.assertIs(is_event((0, n, NO_VECTOR, 1, ("inc", "k", 1))), False, n)

    def test_seen_has_what_the_writer_wrote_ahead(self):
        for site in range(8):
            for number in range(5):
                data = (site, 3, raised((2,) * 8, (site, number)), 9, ("inc", "k", 1))
                self.assertIs(is_event(data), number == 2, data)

    def test_seen_that_is_no_vector(self):
        for seen in (None, True, 0, "", (), (0,) * 7, (0,) * 9, (0,) * 7 + (-1,), (0,) * 7 + (False,), (0,) * 7 + ("",),
                     (NO_VECTOR,), (False,) + (0,) * 7):
            self.assertIs(is_event((0, 1, seen, 1, ("inc", "k", 1))), False, seen)

    def test_heights(self):
        for height, right in ((-1, False), (0, False), (1, True), (2, True), (None, False), (True, False),
                              ("1", False), ((1,), False), ((), False)):
            self.assertIs(is_event((0, 1, NO_VECTOR, height, ("inc", "k", 1))), right, height)

    def test_wrong_kinds_of_dots(self):
        for item in (None, True, False, "0", "1", (), (0,), (0, 1)):
            self.assertIs(is_event((item, 1, NO_VECTOR, 1, ("inc", "k", 1))), False, item)
            self.assertIs(is_event((0, item, NO_VECTOR, 1, ("inc", "k", 1))), False, item)

    def test_an_item_more_or_less(self):
        right = (0, 1, NO_VECTOR, 1, ("inc", "k", 1))
        for data in (right[:4], right[1:], right + (None,), right + (0,), (right,), ((0, 1),) + right[2:], ()):
            self.assertIs(is_event(data), False, data)

    def test_wrong_kinds(self):
        for data in (None, True, False, 0, 5, "", "event", "abcde", ((),), ((), (), (), (), ()), (None,) * 5, (1,) * 5):
            self.assertIs(is_event(data), False, data)


class Pasts(unittest.TestCase):
    def test_dots(self):
        self.assertEqual(dot_of((7, 3, (9, 0, 0, 0, 0, 0, 0, 2), 12, ("inc", "k", 1))), (7, 3))

    def test_the_past_is_what_seen_has(self):
        event = (7, 3, (9, 0, 1, 0, 0, 0, 0, 2), 12, ("inc", "k", 1))
        for dot, right in (((0, 9), True), ((0, 1), True), ((0, 10), False), ((1, 1), False), ((2, 1), True),
                           ((2, 2), False), ((7, 2), True), ((7, 3), False), ((7, 4), False)):
            self.assertIs(past_has(event, dot), right, dot)


if __name__ == "__main__":
    unittest.main()
