"""Points [73] to [75]: what all events mean, faults, worlds at rest."""

import unittest

from partmeet.twin.twin import events_of, fault_among, fault_of_site, fault_of_world, is_at_rest, meant
from partmeet.world.world import World, answer_at
from tests.sites import vector
from tests.states import tell, world_of
from tests.writers import event, orders_of, some_events

WORDS = ("register", "heads", "counter", "members", "text", "places")
OPS = (("set", "k", 1), ("inc", "k", 5), ("add", "k", "x"), ("insert", "k", None, "A"), ("insert", "a", None, "B"))


def one_site():
    """A world of one site that wrote something of all kinds for the key k, and a text for the key a."""
    world = world_of(1)
    for op in OPS:
        world.write(0, 0, op)
    return world


def changed(world, dot, op=None):
    """The noted events of a world, one of them with another operation, or left out."""
    written = dict(world.written)
    if op is None:
        del written[dot]
    else:
        written[dot] = written[dot][:4] + (op,)
    return written


class Events(unittest.TestCase):
    def test_events_of(self):
        world = world_of(3)
        for site in (2, 0, 1, 0, 2, 0):
            world.write(site, site, ("inc", "k", 1))
        world.calm(3)
        everything = [(0, 1), (0, 2), (0, 3), (1, 1), (2, 1), (2, 2)]
        self.assertEqual([e[:2] for e in events_of(world, vector(3, 1, 2))], everything)
        self.assertEqual(events_of(world, vector(3, 1, 2)), [world.written[dot] for dot in everything])
        self.assertEqual([e[:2] for e in events_of(world, vector(1, 0, 2))], [(0, 1), (2, 1), (2, 2)])
        self.assertEqual([e[:2] for e in events_of(world, vector(9, 9, 9, 9))], everything)
        self.assertEqual(events_of(world, vector()), [])
        events_of(world, vector(9)).clear()
        self.assertEqual(len(world.written), 6)

    def test_by_dots_and_not_as_they_were_noted(self):
        world = world_of(1)
        for _ in range(12):
            world.write(0, 0, ("inc", "k", 1))
        world.written = {dot: world.written[dot] for dot in reversed(list(world.written))}
        self.assertEqual([e[:2] for e in events_of(world, vector(11))], [(0, n) for n in range(1, 12)])


class Meaning(unittest.TestCase):
    def test_each_word(self):
        events = events_of(one_site(), vector(9))
        self.assertEqual([meant(events, word, "k") for word in WORDS], [[1], [(0, 1)], 5, ["x"], "A", [(0, 4)]])
        self.assertEqual([meant(events, word, "a") for word in WORDS], [[], [], 0, [], "B", [(0, 5)]])
        self.assertEqual([meant(events, word, "none") for word in WORDS], [[], [], 0, [], "", []])
        self.assertEqual([meant([], word, "k") for word in WORDS], [[], [], 0, [], "", []])

    def test_without_knowing_of_one_another(self):
        events = [event(0, 1, (), 1, ("set", "k", "b")), event(1, 1, (), 1, ("set", "k", 2)),
                  event(0, 2, (1,), 2, ("add", "k", "b")), event(1, 2, (1, 1), 2, ("add", "k", 2)),
                  event(0, 3, (2,), 3, ("insert", "k", None, "b")), event(1, 3, (1, 2), 3, ("insert", "k", None, "a"))]
        for order in orders_of(events):
            self.assertEqual([meant(order, word, "k") for word in WORDS],
                             [["b", 2], [(0, 1), (1, 1)], 0, [2, "b"], "ab", [(1, 3), (0, 3)]])

    def test_the_order_of_the_events_plays_no_part(self):
        for seed in range(20):
            events = some_events(seed)
            for word in WORDS:
                self.assertEqual(len({repr(meant(order, word, "k")) for order in orders_of(events)}), 1)


class FaultsOfSites(unittest.TestCase):
    def setUp(self):
        self.world = one_site()
        self.site = self.world.stations[0].site
        self.events = events_of(self.world, self.site.vector)

    def fault(self, dot, op, keys):
        return fault_of_site(self.site, events_of_dict(changed(self.world, dot, op)), keys)

    def test_no_fault(self):
        for _ in range(2):
            for keys in ([], ["k"], ["a", "k"], ["k", "none", "a"]):
                self.assertIsNone(fault_of_site(self.site, self.events, keys))
                self.assertIsNone(fault_of_site(self.site, self.events[::-1], keys))
            self.site.forget()

    def test_each_word(self):
        for dot, op, word in (((0, 1), ("set", "k", 2), "register"), ((0, 1), ("inc", "k", 0), "register"),
                              ((0, 2), ("inc", "k", 6), "counter"), ((0, 3), ("add", "k", "y"), "members"),
                              ((0, 4), ("insert", "k", None, "B"), "text"), ((0, 5), ("insert", "k", None, "B"), "text")):
            self.assertEqual(self.fault(dot, op, ["k"]), (word, "k"), op)
            self.assertIsNone(self.fault(dot, op, ["none", "other"]))

    def test_heads_and_places_alone(self):
        """The values are right, and their dots are not."""
        same = [event(0, 1, (), 1, ("set", "k", 1)), event(0, 2, (1,), 2, ("set", "k", 1)),
                event(0, 3, (2,), 3, ("insert", "t", None, "A")), event(0, 4, (3,), 4, ("insert", "t", None, "A")),
                event(0, 5, (4,), 5, ("erase", "t", (0, 4)))]
        world = world_of(1)
        for e in same:
            world.write(0, 0, e[4])
        site = world.stations[0].site
        self.assertIsNone(fault_of_site(site, same, ["k", "t"]))
        other = same[:1] + [same[1][:4] + (("inc", "z", 1),)] + same[2:]
        self.assertEqual(fault_of_site(site, other, ["t", "k"]), ("heads", "k"))
        other = same[:4] + [same[4][:4] + (("erase", "t", (0, 3)),)]
        self.assertEqual(fault_of_site(site, other, ["k", "t"]), ("places", "t"))

    def test_the_first_key_of_the_list_ahead_of_the_first_word(self):
        events = [e[:4] + (op,) for e, op in zip(self.events, OPS[:3] + (("insert", "k", None, "Z"),
                                                                        ("set", "a", 1)))]
        self.assertEqual(fault_of_site(self.site, events, ["k", "a"]), ("text", "k"))
        self.assertEqual(fault_of_site(self.site, events, ["a", "k"]), ("register", "a"))
        self.assertEqual(fault_of_site(self.site, events, ["none", "k", "a"]), ("text", "k"))

    def test_words_in_the_order_of_the_questions(self):
        events = [e[:4] + (("inc", "z", 1),) for e in self.events]
        wanted = list(WORDS)
        for e, right in zip(events, self.events):
            # The heads are wrong as long as the register is, and the places as the text.
            self.assertEqual(fault_of_site(self.site, events, ["k"]), (wanted.pop(0), "k"))
            if wanted[0] in ("heads", "places"):
                wanted.pop(0)
            events[events.index(e)] = right
            if not wanted:
                break
        self.assertIsNone(fault_of_site(self.site, events, ["k"]))

    def test_what_is_passed_does_not_change(self):
        keys, events = ["k", "a"], list(self.events)
        fault_of_site(self.site, events, keys)
        self.assertEqual((keys, events), (["k", "a"], self.events))


def events_of_dict(written):
    return [written[dot] for dot in sorted(written)]


class FaultsOfWorlds(unittest.TestCase):
    def test_the_example_of_the_interface(self):
        world = World(3, (0, 1, 2))
        self.assertEqual((world.write(0, 0, ("set", "k", 1)), world.write(1, 1, ("set", "k", 2))), ((0, 1), (1, 1)))
        world.calm(1)
        self.assertEqual((fault_of_world(world), is_at_rest(world)), (None, False))
        world.calm(4)
        self.assertEqual((is_at_rest(world), world.stations[2].site.latest("k")), (True, [1, 2]))

    def test_no_fault(self):
        world = one_site()
        self.assertIsNone(fault_of_world(world))
        self.assertIsNone(fault_among(world.stations, world.written))
        self.assertIsNone(fault_among([], world.written))
        self.assertIsNone(fault_of_world(world_of(3)))

    def test_changed_events(self):
        world = one_site()
        for _ in range(2):
            for dot, op, fault in (((0, 1), ("set", "k", 2), (0, "register", "k")),
                                   ((0, 2), ("inc", "k", 6), (0, "counter", "k")),
                                   ((0, 3), None, (0, "members", "k")),
                                   ((0, 4), ("insert", "k", None, "B"), (0, "text", "k")),
                                   ((0, 5), ("set", "b", 5), (0, "register", "b"))):
                written = changed(world, dot, op)
                copy = dict(written)
                self.assertEqual(fault_among(world.stations, written), fault)
                self.assertEqual(written, copy)
                twin = one_site()
                twin.written = written
                self.assertEqual(fault_of_world(twin), fault)
            world.stations[0].site.forget()

    def test_only_keys_that_a_noted_operation_names(self):
        world = one_site()
        # Nothing that is noted names the key a any more, so nobody asks for it.
        self.assertIsNone(fault_among(world.stations, changed(world, (0, 5))))
        self.assertIsNone(fault_among(world.stations, {}))
        # It is enough that an event does so that this site does not know.
        written = changed(world, (0, 5))
        written[(1, 1)] = event(1, 1, (), 1, ("inc", "a", 1))
        self.assertEqual(fault_among(world.stations, written), (0, "text", "a"))

    def test_only_events_that_the_site_knows(self):
        world = world_of(2)
        world.write(0, 0, ("set", "k", 1))
        world.write(1, 1, ("set", "k", 2))
        tell(world, 0, 1)
        self.assertIsNone(fault_of_world(world))
        self.assertEqual(fault_among(world.stations, changed(world, (1, 1), ("set", "k", 3))), (1, "register", "k"))
        self.assertEqual(fault_among(world.stations, changed(world, (0, 1), ("set", "k", 3))), (0, "register", "k"))

    def test_the_least_site_then_the_least_key_then_the_first_word(self):
        world = world_of(3)
        for key in ("b", "a", "b1", "0"):
            world.write(0, 0, ("inc", key, 1))
        world.write(0, 0, ("insert", "a", None, "A"))
        tell(world, 0, 1, 2)
        written = dict(world.written)
        for n, op in ((1, ("inc", "b", 2)), (2, ("inc", "a", 2)), (3, ("inc", "b1", 2)), (5, ("insert", "a", None, "B"))):
            written = {**written, (0, n): written[(0, n)][:4] + (op,)}
        self.assertEqual(fault_among(world.stations, written), (0, "counter", "a"))
        self.assertEqual(fault_among(world.stations[1:], written), (1, "counter", "a"))
        self.assertEqual(fault_among(world.stations[::-1], written), (0, "counter", "a"))
        written[(0, 2)] = world.written[(0, 2)]
        self.assertEqual(fault_among(world.stations, written), (0, "text", "a"))
        written[(0, 5)] = world.written[(0, 5)]
        self.assertEqual(fault_among(world.stations, written), (0, "counter", "b"))
        written[(0, 1)] = world.written[(0, 1)]
        self.assertEqual(fault_among(world.stations, written), (0, "counter", "b1"))

    def test_only_sites_that_are_up(self):
        world = world_of(4, (0, 1, 2))
        for site in range(3):
            world.write(site, site, ("inc", "k", 1))
        written = {dot: e[:4] + (("inc", "k", 2),) for dot, e in world.written.items()}
        self.assertEqual(fault_among(world.stations, written), (0, "counter", "k"))
        world.crash(0, 0)
        self.assertEqual(fault_among(world.stations, written), (1, "counter", "k"))
        world.wipe(1)
        self.assertEqual(fault_among(world.stations, written), (2, "counter", "k"))
        world.crash(2, 0)
        self.assertIsNone(fault_among(world.stations, written))
        world.restart(0)
        self.assertEqual(fault_among(world.stations, written), (0, "counter", "k"))

    def test_a_site_that_lost_something(self):
        """A fault that lies in the site itself."""
        world = world_of(2)
        world.write(0, 0, ("add", "k", "x"))
        world.calm(3)
        self.assertIsNone(fault_of_world(world))
        world.stations[1].site.base.sets["k"] = ["y"]
        self.assertEqual(fault_of_world(world), (1, "members", "k"))
        self.assertEqual(answer_at(world.stations[1].site, "members", "k"), ["y"])


class Rest(unittest.TestCase):
    def at_rest(self):
        world = world_of(4, (0, 1, 2))
        for site in range(3):
            world.write(site, site, ("inc", "k", 1))
        world.calm(5)
        self.assertIs(is_at_rest(world), True)
        return world

    def test_new_worlds(self):
        for size in (1, 2, 8):
            self.assertIs(is_at_rest(world_of(size)), True)

    def test_an_event_is_held(self):
        world = world_of(1)
        world.write(0, 0, ("inc", "k", 1))
        self.assertIs(is_at_rest(world), False)
        world.forget(0)
        self.assertIs(is_at_rest(world), True)

    def test_all_hold_the_same(self):
        world = world_of(2)
        world.write(0, 0, ("inc", "k", 1))
        tell(world, 0, 1)
        one, two = [station.site for station in world.stations]
        self.assertEqual((one.vector, one.held, one.base.as_data()), (two.vector, two.held, two.base.as_data()))
        self.assertIs(is_at_rest(world), False)

    def test_one_holds_what_others_folded(self):
        world = world_of(2)
        world.write(0, 0, ("inc", "k", 1))
        tell(world, 0, 1, 0)
        world.forget(0)
        self.assertIs(is_at_rest(world), False)
        world.forget(1)
        self.assertIs(is_at_rest(world), True)

    def test_an_event_waits(self):
        world = self.at_rest()
        late = event(1, 3, (1, 2, 1), 3, ("inc", "k", 1))
        world.stations[0].site.waiting.append(late)
        self.assertIs(is_at_rest(world), False)
        world.stations[0].site.waiting.clear()
        self.assertIs(is_at_rest(world), True)

    def test_vectors_differ(self):
        world = self.at_rest()
        world.stations[2].site.vector = vector(1, 1, 2)
        self.assertIs(is_at_rest(world), False)
        world.stations[2].site.vector = vector(1, 1, 1)
        self.assertIs(is_at_rest(world), True)

    def test_bases_differ(self):
        for field, key, value in (("registers", "k", [((0, 1), 1)]), ("counters", "k", 4), ("sets", "k", [1]),
                                  ("texts", "k", [((0, 1), "A")])):
            world = self.at_rest()
            getattr(world.stations[1].site.base, field)[key] = value
            self.assertIs(is_at_rest(world), False)
        for field, value in (("vector", vector(1, 1)), ("height", 5)):
            world = self.at_rest()
            setattr(world.stations[1].site.base, field, value)
            self.assertIs(is_at_rest(world), False)

    def test_sites_that_are_not_up_play_no_part(self):
        world = self.at_rest()
        world.write(0, 0, ("inc", "k", 1))
        self.assertIs(is_at_rest(world), False)
        world.crash(0, 0)
        self.assertIs(is_at_rest(world), True)
        world.restart(0)
        self.assertIs(is_at_rest(world), False)
        world.wipe(0)
        self.assertIs(is_at_rest(world), True)
        self.assertEqual([station.state for station in world.stations], ["gone", "up", "up", "absent"])
        world.crash(1, 0)
        world.wipe(2)
        self.assertIs(is_at_rest(world), True)

    def test_what_does_not_keep_a_world_from_rest(self):
        """Messages on their way, links that are cut, an ack that is wanted."""
        world = self.at_rest()
        world.admit(0, 3)
        world.calm(2)
        world.wipe(2)
        world.retire(0, 2)
        world.calm(3)
        world.hand(0, 3)
        world.calm(5)
        self.assertIs(is_at_rest(world), True)
        world.say(0, 1)
        world.cut(0, 1)
        self.assertIs(is_at_rest(world), True)
        site = world.stations[3].site
        site.knowing.acks = [()] * 4
        self.assertTrue(site.knowing.wants_ack())
        self.assertIs(is_at_rest(world), True)


if __name__ == "__main__":
    unittest.main()
