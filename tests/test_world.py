"""Points [41], [61], [63] to [66], [70]: worlds, and what clients write and read there."""

import unittest

from partmeet.clients.client import Client
from partmeet.errors import (Absent, Behind, NoClient, NoPlace, NoSite, NotOp, OutOfRange, Retired, SiteDown,
                             SiteGone)
from partmeet.packing.lines import unpack
from partmeet.world.mail import Mail
from partmeet.world.station import Station
from partmeet.world.world import CLIENTS, World, answer_at, frozen
from tests.sites import vector
from tests.states import WorldTest, state_of, tell, unsynced, world_of

OP = ("set", "k", 1)
WORDS = ("register", "heads", "counter", "members", "text", "places")


def disk_of(world, site):
    return [unpack(payload) for payload in world.stations[site].disk.payloads()]


def unsure(size=3):
    """A world whose site 0 heard something that is not synced yet."""
    world = world_of(size)
    world.write(2, 1, ("add", "k", "x"))
    tell(world, 1, 0)
    assert unsynced(world, 0) > 0
    return world


def retired():
    """A world whose site 0 knows itself to be retiring."""
    world = world_of(3)
    world.write(0, 0, ("insert", "t", None, "A"))
    # No call makes a site that is up know that of itself, so its knowledge is set by hand.
    world.stations[0].site.knowing.retiring = (0,)
    return world


class Making(unittest.TestCase):
    def test_a_new_world(self):
        world = World(4, (1, 3))
        self.assertEqual([(station.number, station.size, station.first, station.state) for station in world.stations],
                         [(0, 4, (1, 3), "absent"), (1, 4, (1, 3), "up"), (2, 4, (1, 3), "absent"),
                          (3, 4, (1, 3), "up")])
        self.assertEqual({station.__class__ for station in world.stations}, {Station})
        self.assertEqual([client.token for client in world.clients], [vector()] * 3)
        self.assertEqual({client.__class__ for client in world.clients}, {Client})
        self.assertEqual(len({id(client) for client in world.clients}), CLIENTS)
        self.assertEqual((CLIENTS, world.mail.__class__, world.mail.numbers(), world.mail.cut_links()),
                         (3, Mail, [], []))
        self.assertEqual((world.written, world.history), ({}, []))

    def test_sizes(self):
        for size in (1, 2, 8):
            self.assertEqual(len(World(size, (0,)).stations), size)
            self.assertEqual(len(World(size, tuple(range(size))).stations), size)
        for size in (0, 9, 10, -1, 100):
            for first in ((0,), (), (0, 1)):
                with self.assertRaises(OutOfRange) as caught:
                    World(size, first)
                self.assertIs(caught.exception.__class__, OutOfRange)

    def test_first_sites(self):
        for first in ((0,), (7,), (0, 7), (2, 3, 5), tuple(range(8))):
            states = [station.state for station in World(8, first).stations]
            self.assertEqual([number for number in range(8) if states[number] == "up"], list(first))
            self.assertEqual(set(states), {"up"} if len(first) == 8 else {"up", "absent"})
        for size, first in ((2, ()), (2, (0, 0)), (2, (1, 0)), (3, (0, 2, 1)), (3, (1, 1, 2)), (2, (2,)), (2, (0, 2)),
                            (8, (8,)), (8, (0, 8)), (2, (-1,)), (2, (-1, 0)), (1, (1,)), (1, ()), (8, ())):
            with self.assertRaises(OutOfRange, msg=(size, first)) as caught:
                World(size, first)
            self.assertIs(caught.exception.__class__, OutOfRange)

    def test_truth_values_are_no_numbers(self):
        for size, first in ((True, (0,)), (2, (True,)), (2, (False, 1))):
            self.assertRaises(OutOfRange, World, size, first)

    def test_worlds_share_nothing(self):
        one, two = world_of(2), world_of(2)
        before = state_of(two)
        one.write(0, 0, OP)
        one.say(0, 1)
        one.cut(0, 1)
        self.assertEqual(state_of(two), before)

    def test_the_example_of_the_interface(self):
        world = World(3, (0, 1))
        self.assertEqual(world.write(0, 0, ("add", "k", "x")), (0, 1))
        self.assertRaises(Behind, world.read, 0, 1, "members", "k")
        self.assertIsNone(world.deliver(world.say(0, 1)))
        self.assertEqual(world.read(0, 1, "members", "k"), ["x"])
        self.assertIsNone(world.calm(3))
        self.assertEqual([station.site.held for station in world.stations], [[], [], []])
        self.assertEqual(world.admit(0, 2), (0, 2))
        world.calm(2)
        self.assertIsNone(world.hand(1, 2))
        self.assertEqual(world.read(0, 2, "members", "k"), ["x"])


class Writing(WorldTest):
    def test_what_it_does(self):
        world = unsure()
        self.assertEqual(world.write(0, 0, OP), (0, 1))
        event = (0, 1, vector(0, 1), 2, OP)
        self.assertEqual(world.stations[0].site.held[-1], event)
        self.assertEqual(world.written[(0, 1)], event)
        self.assertEqual(sorted(world.written), [(0, 1), (1, 1)])
        self.assertEqual(disk_of(world, 0)[-1], ("event", event))
        self.assertEqual(unsynced(world, 0), 0)
        self.assertEqual(world.clients[0].token, vector(1, 1))
        self.assertEqual(world.clients[1].token, vector())
        self.assertEqual(world.history[-1], (0, 0, "write", OP, (0, 1), vector(1, 1)))
        self.assertEqual(len(world.history), 2)
        self.assertEqual(world.write(1, 0, ("inc", "k", 4)), (0, 2))
        self.assertEqual(world.history[-1], (1, 0, "write", ("inc", "k", 4), (0, 2), vector(2, 1)))

    def test_each_operation(self):
        world = world_of(1)
        ops = [("set", "k", "a"), ("inc", "k", -3), ("add", "k", 5), ("remove", "k", 5), ("insert", "t", None, "x"),
               ("insert", "t", (0, 5), "y"), ("erase", "t", (0, 5))]
        self.assertEqual([world.write(2, 0, op) for op in ops], [(0, n) for n in range(1, 8)])
        self.assertEqual([world.written[(0, n)][4] for n in range(1, 8)], ops)
        self.assertEqual([row[3:5] for row in world.history], [(op, (0, n + 1)) for n, op in enumerate(ops)])
        site = world.stations[0].site
        self.assertEqual((site.latest("k"), site.counter("k"), site.members("k"), site.text("t")), (["a"], -3, [], "y"))

    def test_what_others_wrote_is_not_noted_anew(self):
        world = unsure()
        world.write(0, 0, OP)
        self.assertEqual(list(world.written), [(1, 1), (0, 1)])
        tell(world, 0, 1, 2)
        self.assertEqual(list(world.written), [(1, 1), (0, 1)])

    def test_an_ack_is_noted_and_in_the_vector(self):
        """A site that was handed by one that knew of a lost one wants an ack; it writes it behind its first write."""
        world = world_of(4, (0, 1, 2))
        world.admit(0, 3)
        world.calm(2)
        world.wipe(2)
        world.retire(0, 2)
        world.hand(0, 3)
        self.assertEqual(world.stations[3].site.vector[3], 0)
        self.assertEqual(world.write(1, 3, OP), (3, 1))
        self.assertEqual((world.written[(3, 1)][4], world.written[(3, 2)][4]), (OP, ("ack", (2,))))
        self.assertEqual(world.history[-1][5][3], 2)
        self.assertEqual(world.clients[1].token, world.stations[3].site.vector)
        self.assertEqual(unsynced(world, 3), 0)

    def test_a_dot_that_is_written_again(self):
        """An ack was not synced; behind the crash its dot is another event's, and the world notes that one."""
        world = world_of(3)
        world.wipe(2)
        world.retire(1, 2)
        tell(world, 1, 0)
        self.assertEqual(world.written[(0, 1)][4], ("ack", (2,)))
        world.crash(0, 0)
        self.assertEqual(world.written[(0, 1)][4], ("ack", (2,)))
        world.restart(0)
        self.assertEqual(world.write(0, 0, OP), (0, 1))
        self.assertEqual(world.written[(0, 1)], (0, 1, vector(), 1, OP))

    def test_what_was_told_stays_behind_a_crash(self):
        world = unsure()
        dot = world.write(0, 0, OP)
        world.crash(0, 0)
        world.restart(0)
        self.assertEqual(world.read(0, 0, "heads", "k"), [dot])
        self.assertEqual(world.write(0, 0, OP), (0, 2))

    def test_no_client(self):
        world = unsure()
        for client in (3, 4, -1, 100, True, False):
            with self.assertRaises(NoClient):
                world.write(client, 0, OP)
        self.assertRaises(NoSite, world.write, 0, False, OP)
        # Ahead of all else.
        self.assertRefused(NoClient, world, "write", 3, 9, OP)
        self.assertRefused(NoClient, world, "write", 3, 0, ("ack", (0,)))

    def test_running(self):
        for call in (("write", 0, None, OP), ("write", 0, None, ()), ("read", 0, None, "text", "k"),
                     ("read", 0, None, "x", "k")):
            world = world_of(4, (0, 1, 2))
            world.write(0, 2, OP)
            world.crash(1, 0)
            world.wipe(2)
            for site, error in ((4, NoSite), (9, NoSite), (2, SiteGone), (3, Absent), (1, SiteDown)):
                self.assertRefused(error, world, call[0], call[1], site, *call[3:])
            with self.assertRaises(NoSite):
                getattr(world, call[0])(call[1], -1, *call[3:])

    def test_not_op(self):
        world = unsure()
        # Client 2 has seen more than site 2, and so it may not ask there.
        for op in (("admit", 1), ("begin", 1), ("retire", 1, ()), ("ack", (1,)), ("set", "K", 1), ("set", "k", None),
                   ("inc", "k", True), ("inc", "k", 10 ** 9 + 1), ("insert", "k", None, "ab"), ("erase", "k", None),
                   (), None, 5, "set", ("set", "k"), ("set", "k", 1, 1), ("erase", "k", (8, 1)),
                   ("insert", "k", (0, 0), "a")):
            self.assertRefused(NotOp, world, "write", 0, 0, op)
            self.assertRefused(NotOp, world, "write", 2, 2, op)

    def test_behind(self):
        world = unsure()
        self.assertRefused(Behind, world, "write", 2, 2, OP)
        # Ahead of what the site itself refuses.
        self.assertRefused(Behind, world, "write", 2, 2, ("erase", "t", (5, 5)))
        world.stations[2].site.knowing.retiring = (2,)
        self.assertRefused(Behind, world, "write", 2, 2, ("erase", "t", (5, 5)))
        world.stations[2].site.knowing.retiring = ()
        self.assertEqual(world.write(0, 2, OP), (2, 1))
        tell(world, 1, 2)
        self.assertEqual(world.write(2, 2, OP), (2, 2))

    def test_no_place(self):
        world = unsure()
        first = world.write(0, 0, ("insert", "t", None, "A"))
        for op in (("insert", "t", (0, 9), "B"), ("erase", "t", (1, 1)), ("insert", "k", first, "B"),
                   ("erase", "k", first)):
            self.assertRefused(NoPlace, world, "write", 0, 0, op)
        world.write(0, 0, ("erase", "t", first))
        self.assertRefused(NoPlace, world, "write", 0, 0, ("erase", "t", first))
        self.assertRefused(NoPlace, world, "write", 0, 0, ("insert", "t", first, "B"))

    def test_retired_ahead_of_no_place(self):
        world = retired()
        self.assertRefused(Retired, world, "write", 0, 0, OP)
        self.assertRefused(Retired, world, "write", 0, 0, ("erase", "t", (5, 5)))
        self.assertRefused(NotOp, world, "write", 0, 0, ("ack", (1,)))
        # It still answers.
        self.assertEqual(world.read(0, 0, "text", "t"), "A")


class Reading(WorldTest):
    def setUp(self):
        self.world = world_of(2)
        for site, op in ((0, ("set", "k", 1)), (1, ("set", "k", "b")), (0, ("inc", "k", 3)), (1, ("inc", "k", -5)),
                         (0, ("add", "k", "x")), (1, ("add", "k", 7)), (0, ("insert", "k", None, "A")),
                         (1, ("insert", "k", None, "B"))):
            self.world.write(site, site, op)
        tell(self.world, 1, 0)

    ANSWERS = {"register": [1, "b"], "heads": [(0, 1), (1, 1)], "counter": -2, "members": [7, "x"], "text": "BA",
               "places": [(1, 4), (0, 4)]}
    NOTHING = {"register": [], "heads": [], "counter": 0, "members": [], "text": "", "places": []}

    def test_each_word(self):
        world = self.world
        for word in WORDS:
            answer = world.read(2, 0, word, "k")
            self.assertEqual((answer, answer.__class__), (self.ANSWERS[word], self.ANSWERS[word].__class__), word)
            row = world.history[-1]
            told = tuple(answer) if isinstance(answer, list) else answer
            self.assertEqual(row, (2, 0, "read", (word, "k"), told, vector(4, 4)))
            self.assertEqual(world.read(2, 0, word, "unknown"), self.NOTHING[word])
        self.assertEqual(len(world.history), 8 + 12)

    def test_what_it_does_besides(self):
        world = self.world
        site = world.stations[0].site.image()
        written = dict(world.written)
        self.assertGreater(unsynced(world, 0), 0)
        disk = world.stations[0].disk.images()
        world.read(2, 0, "text", "none")
        self.assertEqual((unsynced(world, 0), world.stations[0].disk.images()), (0, disk))
        self.assertEqual([client.token for client in world.clients], [vector(4), vector(0, 4), vector(4, 4)])
        self.assertEqual((world.stations[0].site.image(), world.written), (site, written))

    def test_what_was_told_stays_behind_a_crash(self):
        world = self.world
        world.read(2, 0, "counter", "k")
        world.crash(0, 0)
        world.restart(0)
        self.assertEqual(world.read(2, 0, "counter", "k"), -2)

    def test_answers_are_new_lists(self):
        world = self.world
        world.stations[0].site.forget()
        for word in ("register", "heads", "members", "places"):
            world.read(2, 0, word, "k").append(5)
            self.assertEqual(world.read(2, 0, word, "k"), self.ANSWERS[word])
            self.assertEqual(world.history[-1][4], tuple(self.ANSWERS[word]))

    def test_behind(self):
        world = self.world
        self.assertEqual(world.read(0, 0, "counter", "k"), -2)
        for word in WORDS:
            self.assertRefused(Behind, world, "read", 0, 1, word, "k")
        # What a client saw counts, not what it asked for; another client may ask.
        self.assertRefused(Behind, world, "read", 0, 1, "text", "other")
        self.assertEqual(world.read(2, 1, "counter", "k"), -5)
        tell(world, 0, 1)
        self.assertEqual(world.read(0, 1, "counter", "k"), -2)

    def test_unknown_words_and_texts_that_are_no_key(self):
        world = self.world
        world.read(0, 0, "text", "k")
        for word, key in (("latest", "k"), ("", "k"), ("Register", "k"), ("texts", "k"), ("read", "k"), ("text", ""),
                          ("text", "K"), ("text", "ninechars"), ("text", "a b"), ("text", "a-b"), ("latest", "K")):
            self.assertRefused(OutOfRange, world, "read", 2, 0, word, key)
            # Ahead of Behind.
            self.assertRefused(OutOfRange, world, "read", 0, 1, word, key)
        self.assertEqual(world.read(0, 0, "text", "eightchr"), "")

    def test_no_client(self):
        self.assertRefused(NoClient, self.world, "read", 3, 0, "text", "k")
        self.assertRefused(NoClient, self.world, "read", 3, 9, "none", "K")
        self.assertRaises(NoClient, self.world.read, -1, 0, "text", "k")


class History(WorldTest):
    def test_rows_in_order(self):
        world = world_of(2)
        world.write(0, 0, ("add", "k", 1))
        tell(world, 0, 1)
        world.read(1, 1, "members", "k")
        world.write(2, 1, ("inc", "k", 2))
        world.read(1, 1, "counter", "k")
        self.assertRaises(Behind, world.read, 1, 0, "counter", "k")
        self.assertRaises(NoPlace, world.write, 0, 0, ("erase", "k", (0, 1)))
        world.read(0, 0, "heads", "k")
        self.assertEqual(world.history, [
            (0, 0, "write", ("add", "k", 1), (0, 1), vector(1)),
            (1, 1, "read", ("members", "k"), (1,), vector(1)),
            (2, 1, "write", ("inc", "k", 2), (1, 1), vector(1, 1)),
            (1, 1, "read", ("counter", "k"), 2, vector(1, 1)),
            (0, 0, "read", ("heads", "k"), (), vector(1)),
        ])

    def test_nothing_else_makes_a_row(self):
        world = world_of(3, (0, 1))
        world.admit(0, 2)
        world.calm(2)
        world.hand(0, 2)
        world.wipe(1)
        world.retire(0, 1)
        world.sync(0)
        world.forget(0)
        world.crash(0, 5)
        world.restart(0)
        world.drop(world.double(world.say(0, 2)))
        world.cut(0, 1)
        world.heal(0, 1)
        self.assertEqual(world.history, [])


class Answers(unittest.TestCase):
    def test_answer_at(self):
        world = world_of(1)
        for op in (("set", "k", 1), ("inc", "k", 5), ("add", "k", "x"), ("insert", "k", None, "A")):
            world.write(0, 0, op)
        wanted = [[1], [(0, 1)], 5, ["x"], "A", [(0, 4)]]
        for _ in range(2):
            self.assertEqual([answer_at(world.stations[0].site, word, "k") for word in WORDS], wanted)
            world.stations[0].site.forget()
        self.assertEqual([answer_at(world.stations[0].site, word, "t") for word in WORDS], [[], [], 0, [], "", []])

    def test_frozen(self):
        self.assertEqual([frozen(answer) for answer in ([], [1, "a"], [(0, 1)], 0, -5, "", "ab", (), (1, 2))],
                         [(), (1, "a"), ((0, 1),), 0, -5, "", "ab", (), (1, 2)])
        rows = [1]
        told = frozen(rows)
        rows.append(2)
        self.assertEqual((told, told.__class__), ((1,), tuple))


if __name__ == "__main__":
    unittest.main()
