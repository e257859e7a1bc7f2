"""All that a world has, for tests that see that a refused call changes nothing."""

import unittest

from partmeet.world.world import World


def state_of_station(station):
    site, disk = station.site, station.disk
    return (station.number, station.state, site.number, site.vector, site.image(), list(site.waiting),
            list(site._fresh), disk.images(), disk.unsynced(), disk.turn())


def state_of(world):
    mail = world.mail
    return ([state_of_station(station) for station in world.stations], [client.token for client in world.clients],
            [(number, mail.look(number)) for number in mail.numbers()], mail._next, mail.cut_links(),
            dict(world.written), list(world.history))


def world_of(size, first=None):
    return World(size, tuple(range(size)) if first is None else first)


def tell(world, *path):
    """Let each site of a path say its news to the next one, which hears it."""
    for sender, receiver in zip(path, path[1:]):
        world.deliver(world.say(sender, receiver))


def unsynced(world, site):
    return world.stations[site].disk.unsynced()


class WorldTest(unittest.TestCase):
    def assertRefused(self, error, world, *call):
        """The call raises just this error, also if `perform` does it, and changes nothing."""
        before = state_of(world)
        for act, passed in ((getattr(world, call[0]), call[1:]), (world.perform, (call,))):
            with self.assertRaises(error, msg=call) as caught:
                act(*passed)
            self.assertIs(caught.exception.__class__, error, call)
            self.assertEqual(state_of(world), before, call)
