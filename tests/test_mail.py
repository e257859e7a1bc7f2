"""Point [69]: messages, their numbers, links."""

import unittest

from partmeet.errors import LinkCut, NoMessage
from partmeet.world.mail import Mail

NEWS = ("news", (0,) * 8, ())


class Messages(unittest.TestCase):
    def test_numbers_go_on_from_0(self):
        mail = Mail()
        self.assertEqual(mail.numbers(), [])
        self.assertEqual([mail.put(0, 1, NEWS), mail.put(1, 0, "b"), mail.put(0, 1, "c")], [0, 1, 2])
        self.assertEqual(mail.numbers(), [0, 1, 2])
        self.assertEqual([mail.look(number) for number in (0, 1, 2)], [(0, 1, NEWS), (1, 0, "b"), (0, 1, "c")])

    def test_numbers_are_not_given_again(self):
        mail = Mail()
        for _ in range(12):
            mail.put(0, 1, "a")
        self.assertIsNone(mail.lose(11))
        self.assertIsNone(mail.lose(0))
        self.assertEqual(mail.put(1, 0, "b"), 12)
        for number in mail.numbers():
            mail.lose(number)
        self.assertEqual((mail.numbers(), mail.put(0, 1, "c"), mail.numbers()), ([], 13, [13]))

    def test_numbers_ascend(self):
        mail = Mail()
        for _ in range(30):
            mail.put(2, 1, "a")
        mail.lose(7)
        self.assertEqual(mail.numbers(), [number for number in range(30) if number != 7])

    def test_double(self):
        mail = Mail()
        mail.put(3, 1, NEWS)
        mail.put(0, 1, "b")
        self.assertEqual(mail.double(0), 2)
        self.assertEqual((mail.look(2), mail.look(0)), ((3, 1, NEWS), (3, 1, NEWS)))
        mail.lose(0)
        self.assertEqual((mail.double(2), mail.look(3), mail.numbers()), (3, (3, 1, NEWS), [1, 2, 3]))

    def test_numbers_are_a_new_list(self):
        mail = Mail()
        mail.put(0, 1, "a")
        mail.cut(0, 1)
        mail.numbers().append(5)
        mail.cut_links().append((1, 1))
        self.assertEqual((mail.numbers(), mail.cut_links()), ([0], [(0, 1)]))

    def test_no_message(self):
        mail = Mail()
        mail.put(0, 1, "a")
        mail.put(0, 1, "b")
        mail.lose(0)
        mail.cut(0, 1)
        for number in (0, 2, -1, 1000):
            for call in (mail.look, mail.lose, mail.double, mail.check_link):
                with self.assertRaises(NoMessage) as caught:
                    call(number)
                self.assertIs(caught.exception.__class__, NoMessage)
        self.assertEqual((mail.numbers(), mail.put(0, 1, "c")), ([1], 2))


class Links(unittest.TestCase):
    def test_check_link(self):
        mail = Mail()
        for sender, receiver in ((0, 1), (1, 0), (0, 2)):
            mail.put(sender, receiver, "a")
        self.assertEqual([mail.check_link(number) for number in (0, 1, 2)], [None, None, None])
        self.assertIsNone(mail.cut(0, 1))
        with self.assertRaises(LinkCut) as caught:
            mail.check_link(0)
        self.assertIs(caught.exception.__class__, LinkCut)
        # The way back is another link, and so is that to another site.
        self.assertEqual([mail.check_link(number) for number in (1, 2)], [None, None])
        self.assertIsNone(mail.heal(0, 1))
        self.assertIsNone(mail.check_link(0))

    def test_a_message_over_a_cut_link_is_still_there(self):
        mail = Mail()
        mail.put(0, 1, "a")
        mail.cut(0, 1)
        self.assertEqual((mail.look(0), mail.double(0), mail.put(0, 1, "b")), ((0, 1, "a"), 1, 2))
        mail.lose(0)
        self.assertEqual(mail.numbers(), [1, 2])
        for number in (1, 2):
            self.assertRaises(LinkCut, mail.check_link, number)

    def test_cut_and_heal_again_and_again(self):
        mail = Mail()
        mail.put(0, 1, "a")
        for _ in range(2):
            mail.cut(0, 1)
        self.assertEqual(mail.cut_links(), [(0, 1)])
        mail.heal(0, 1)
        self.assertEqual((mail.cut_links(), mail.check_link(0)), ([], None))
        mail.heal(0, 1)
        mail.heal(5, 6)
        self.assertEqual(mail.cut_links(), [])
        mail.cut(0, 1)
        self.assertEqual(mail.cut_links(), [(0, 1)])

    def test_cut_links_ascend(self):
        mail = Mail()
        for link in ((2, 0), (0, 2), (1, 1), (0, 1), (2, 0)):
            mail.cut(*link)
        self.assertEqual(mail.cut_links(), [(0, 1), (0, 2), (1, 1), (2, 0)])
        mail.heal(1, 1)
        self.assertEqual(mail.cut_links(), [(0, 1), (0, 2), (2, 0)])


if __name__ == "__main__":
    unittest.main()
