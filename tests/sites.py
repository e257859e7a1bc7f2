"""Sites for the tests, and how they tell one another what they know."""

import unittest

from partmeet.replica.replica import Site


def vector(*numbers):
    return numbers + (0,) * (8 - len(numbers))


def sites(size, first=None):
    """The first sites of a plan."""
    first = tuple(range(size)) if first is None else first
    return [Site(number, size, first) for number in first]


def tell(sender, *receivers):
    for receiver in receivers:
        receiver.hear(sender.number, sender.news_for(receiver.number))


def meet(*those, rounds=2):
    for _ in range(rounds):
        for sender in those:
            for receiver in those:
                if sender is not receiver:
                    tell(sender, receiver)


def news(numbers, *events):
    return ("news", vector(*numbers), events)


def state_of(site):
    return site.number, site.size, site.vector, site.image(), list(site.waiting)


class SiteTest(unittest.TestCase):
    def assertRefused(self, error, site, call, *args):
        """The call raises the error, and changes nothing."""
        twin, fresh = site.fork(), list(site._fresh)
        with self.assertRaises(error):
            call(site, *args)
        self.assertEqual(state_of(site), state_of(twin))
        self.assertEqual(site.fresh(), fresh)
