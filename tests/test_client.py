"""Points [61] and [62]: clients."""

import unittest

from partmeet.clients.client import Client
from partmeet.data.vectors import NO_VECTOR
from partmeet.replica.replica import Site


def vector(*numbers):
    return numbers + (0,) * (8 - len(numbers))


class Clients(unittest.TestCase):
    def test_a_new_one_may_ask_anybody(self):
        client = Client()
        self.assertEqual(client.token, NO_VECTOR)
        self.assertIs(client.may_ask(NO_VECTOR), True)
        self.assertIs(client.may_ask(vector(1, 2, 3)), True)

    def test_the_example(self):
        client = Client()
        self.assertIsNone(client.saw((1, 0, 0, 0, 0, 0, 0, 0)))
        self.assertIs(client.may_ask((0, 5, 0, 0, 0, 0, 0, 0)), False)
        self.assertIs(client.may_ask((1, 5, 0, 0, 0, 0, 0, 0)), True)

    def test_greater_at_one_site_and_less_at_another(self):
        client = Client()
        client.saw(vector(3, 1, 0, 0, 0, 0, 0, 2))
        self.assertEqual(client.token, vector(3, 1, 0, 0, 0, 0, 0, 2))
        for numbers in ((3, 1, 0, 0, 0, 0, 0, 2), (4, 1, 9, 0, 0, 0, 0, 2), (3, 1, 0, 0, 0, 0, 0, 3)):
            self.assertIs(client.may_ask(vector(*numbers)), True)
        for numbers in ((2, 9, 0, 0, 0, 0, 0, 9), (9, 0, 0, 0, 0, 0, 0, 9), (9, 9, 9, 9, 9, 9, 9, 1), (), (3, 1)):
            self.assertIs(client.may_ask(vector(*numbers)), False)
        client.saw(vector(1, 4))
        self.assertEqual(client.token, vector(3, 4, 0, 0, 0, 0, 0, 2))
        self.assertIs(client.may_ask(vector(3, 1, 0, 0, 0, 0, 0, 2)), False)
        self.assertIs(client.may_ask(vector(1, 4)), False)
        self.assertIs(client.may_ask(vector(3, 4, 0, 0, 0, 0, 0, 2)), True)

    def test_what_it_saw_stays(self):
        client = Client()
        client.saw(vector(5, 5))
        client.saw(NO_VECTOR)
        client.saw(vector(4, 4))
        self.assertEqual(client.token, vector(5, 5))

    def test_asking_changes_nothing(self):
        client = Client()
        client.saw(vector(1))
        client.may_ask(vector(5, 5))
        client.may_ask(NO_VECTOR)
        self.assertEqual(client.token, vector(1))
        self.assertEqual(Client().token, NO_VECTOR)

    def test_it_finds_what_it_wrote_at_another_site(self):
        one, two, client = Site(0, 2, (0, 1)), Site(1, 2, (0, 1)), Client()
        one.write(("set", "k", 1))
        client.saw(one.vector)
        self.assertIs(client.may_ask(two.vector), False)
        two.write(("set", "j", 1))
        self.assertIs(client.may_ask(two.vector), False)
        two.hear(0, one.news_for(1))
        self.assertIs(client.may_ask(two.vector), True)
        client.saw(two.vector)
        self.assertIs(client.may_ask(one.vector), False)


if __name__ == "__main__":
    unittest.main()
