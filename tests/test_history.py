"""Points [91] to [93]: the judge of histories, and the evidence of worlds."""

import unittest

from partmeet.judge.events import fault_of_events
from partmeet.judge.history import evidence_of, fault_of_history
from partmeet.world.world import World
from tests.sites import vector
from tests.states import tell, world_of
from tests.worlds import Course
from tests.writers import event, orders_of

OPS = (("set", "k", 1), ("inc", "k", 5), ("add", "k", "x"), ("insert", "k", None, "A"), ("insert", "k", (0, 4), "B"))

# What one site wrote, and site 1 behind the first event and the second one.
EVENTS = [event(0, n + 1, (n,), n + 1, op) for n, op in enumerate(OPS)] + [
    event(1, 1, (1,), 2, ("set", "k", "b")), event(1, 2, (2, 1), 3, ("inc", "k", 7))]


def write(client, site, op, dot, *numbers):
    return (client, site, "write", op, dot, vector(*numbers))


def read(client, site, word, answer, *numbers):
    return (client, site, "read", (word, "k"), answer, vector(*numbers))


RIGHT = [write(0, 0, OPS[0], (0, 1), 1), read(0, 0, "register", (1,), 1), write(0, 0, OPS[1], (0, 2), 2),
         write(1, 1, ("set", "k", "b"), (1, 1), 1, 1), read(1, 1, "register", ("b",), 1, 1),
         write(1, 1, ("inc", "k", 7), (1, 2), 2, 2), read(0, 1, "counter", 12, 2, 2), read(0, 0, "counter", 12, 3, 2),
         read(2, 0, "counter", 5, 2)]


class Faults(unittest.TestCase):
    def assertFault(self, fault, history, events=EVENTS):
        copies = list(events), list(history)
        for order in orders_of(events) if events is EVENTS else [events]:
            self.assertEqual(fault_of_history(order, history), fault)
        self.assertEqual((list(events), list(history)), copies)

    def test_no_fault(self):
        self.assertIsNone(fault_of_events(EVENTS))
        self.assertFault(None, [])
        self.assertFault(None, [], [])
        self.assertFault(None, RIGHT)
        for many in range(len(RIGHT)):
            self.assertFault(None, RIGHT[:many])

    def test_reads_of_each_word(self):
        for word, right, wrong in (("register", (1,), ()), ("heads", ((0, 1),), ((0, 2),)), ("counter", 5, 4),
                                   ("members", ("x",), ("x", "y")), ("text", "AB", "BA"),
                                   ("places", ((0, 4), (0, 5)), ((0, 5), (0, 4)))):
            self.assertFault(None, [read(0, 0, word, right, 5)])
            self.assertFault(("wrong", 0), [read(0, 0, word, wrong, 5)])
            self.assertFault(("wrong", 0), [read(0, 0, word, right)])
        for word, nothing in (("register", ()), ("heads", ()), ("counter", 0), ("members", ()), ("text", ""),
                              ("places", ())):
            self.assertFault(None, [read(0, 0, word, nothing)])
            self.assertFault(None, [(0, 0, "read", (word, "other"), nothing, vector(5, 2))])

    def test_the_answer_is_for_the_vector_of_the_row(self):
        for n, text in ((3, ""), (4, "A"), (5, "AB")):
            self.assertFault(None, [read(0, 1, "text", text, n)])
        self.assertFault(None, [read(0, 1, "register", (1,), 1), read(1, 1, "register", ("b",), 5, 1)])
        self.assertFault(("wrong", 1), [read(0, 1, "register", (1,), 1), read(1, 1, "register", (1,), 5, 1)])

    def test_unknown(self):
        for numbers in ((6,), (5, 3), (0, 0, 1), (10 ** 9,), (0, 0, 0, 0, 0, 0, 0, 1)):
            self.assertFault(("unknown", 0), [read(0, 0, "text", "", *numbers)])
            self.assertFault(("unknown", 1), [RIGHT[0], write(1, 0, OPS[1], (0, 2), *numbers)])
        self.assertFault(("unknown", 0), [read(0, 0, "text", "", 1)], [])

    def test_open(self):
        self.assertFault(("open", 0), [read(0, 1, "register", ("b",), 0, 1)])
        self.assertFault(("open", 0), [read(0, 1, "register", ("b",), 1, 2)])
        self.assertFault(("open", 1), [RIGHT[0], write(1, 1, ("set", "k", "b"), (1, 1), 0, 1)])
        self.assertFault(None, [read(0, 1, "register", ("b",), 2, 2)])

    def test_back(self):
        self.assertFault(("back", 1), [read(0, 0, "counter", 5, 2), read(0, 0, "counter", 0, 1)])
        self.assertFault(("back", 1), [write(0, 0, OPS[1], (0, 2), 2), read(0, 1, "register", ("b",), 1, 1)])
        # The join of all rows ahead, not the last of them.
        self.assertFault(("back", 2), [read(0, 0, "counter", 5, 2), read(0, 0, "counter", 5, 2),
                                       read(0, 1, "register", ("b",), 1, 1)])
        self.assertFault(("back", 1), [write(1, 1, ("set", "k", "b"), (1, 1), 1, 1), write(1, 0, OPS[1], (0, 2), 2)])

    def test_back_is_told_for_each_client_alone(self):
        self.assertFault(None, [read(0, 0, "counter", 5, 2), read(1, 0, "counter", 0, 1), read(2, 0, "counter", 0)])
        self.assertFault(("back", 3), [read(0, 0, "counter", 5, 2), read(1, 0, "counter", 0, 1),
                                       read(0, 0, "counter", 5, 3), read(0, 0, "counter", 5, 2)])

    def test_lost(self):
        self.assertFault(("lost", 0), [write(0, 0, OPS[1], (0, 2), 1)])
        self.assertFault(("lost", 0), [write(0, 0, OPS[0], (0, 1))])
        self.assertFault(("lost", 0), [write(0, 0, OPS[0], (1, 1), 1)])
        # The vector has a dot of another operation.
        for op in (("set", "k", 2), ("set", "j", 1), ("add", "k", 1), OPS[1]):
            self.assertFault(("lost", 0), [write(0, 0, op, (0, 1), 1)])
        self.assertFault(("lost", 1), [RIGHT[0], write(0, 0, OPS[2], (0, 2), 2)])

    def test_twice(self):
        self.assertFault(("twice", 1), [RIGHT[0], RIGHT[0]])
        self.assertFault(("twice", 2), [RIGHT[0], RIGHT[1], write(2, 1, OPS[0], (0, 1), 5, 2)])
        self.assertFault(None, [RIGHT[0], RIGHT[1], RIGHT[1]])

    def test_of_two_faults_of_a_row_the_one_that_stands_first(self):
        ahead = [write(0, 0, OPS[0], (0, 1), 2, 1)]
        self.assertFault(None, ahead)
        # Unknown, open, back, lost, twice at once, then one fewer each time; wrong likewise.
        for row, word in ((write(0, 0, OPS[1], (0, 1), 0, 1, 1), "unknown"), (write(0, 0, OPS[1], (0, 1), 0, 1), "open"),
                          (write(0, 0, OPS[1], (0, 1), 1, 1), "back"), (write(0, 0, OPS[1], (0, 1), 2, 1), "lost"),
                          (write(0, 0, OPS[0], (0, 2), 2, 1), "lost"), (write(0, 0, OPS[0], (0, 1), 2, 1), "twice"),
                          (write(0, 0, OPS[0], (0, 1)), "back"),
                          (read(0, 0, "counter", 99, 0, 1, 1), "unknown"), (read(0, 0, "counter", 99, 0, 1), "open"),
                          (read(0, 0, "counter", 99, 1, 1), "back"), (read(0, 0, "counter", 99, 2, 1), "wrong")):
            self.assertFault((word, 1), ahead + [row])

    def test_of_two_rows_the_first_one(self):
        wrong, unknown = read(0, 0, "counter", 4, 2), read(0, 0, "counter", 5, 6)
        self.assertFault(("wrong", 1), [RIGHT[0], wrong, unknown])
        self.assertFault(("unknown", 1), [RIGHT[0], unknown, wrong])

    def test_each_row_changed(self):
        """No row of a right history can be told otherwise."""
        for at, row in enumerate(RIGHT):
            others = [row[:4] + (("no answer",),) + row[5:]] if row[2] == "read" else [
                row[:3] + (("set", "k", 77),) + row[4:], row[:4] + ((row[4][0], row[4][1] + 1),) + row[5:]]
            for other in others:
                self.assertFault(("wrong" if row[2] == "read" else "lost", at), RIGHT[:at] + [other] + RIGHT[at + 1:])

    def test_faults_of_events_come_ahead(self):
        wrong = [read(0, 0, "counter", 4, 2)]
        for events, fault in ((EVENTS + [None], ("strange", 7)), (EVENTS[:2] + EVENTS[:1], ("double", 2)),
                              (EVENTS[1:], ("open", 0)),
                              (EVENTS[:1] + [event(0, 2, (1,), 3, ("inc", "k", 5))], ("height", 1))):
            self.assertEqual(fault_of_events(events), fault)
            self.assertFault(fault, wrong, events)
            self.assertFault(fault, [], events)

    def test_the_example_of_the_interface(self):
        world = World(2, (0, 1))
        self.assertEqual((world.write(0, 0, ("set", "k", 1)), world.read(0, 0, "register", "k")), ((0, 1), [1]))
        events, history = evidence_of(world)
        self.assertIsNone(fault_of_history(events, history))
        changed = history[:1] + [history[1][:4] + ((2,),) + history[1][5:]]
        self.assertEqual(fault_of_history(events, changed), ("wrong", 1))


class Evidence(unittest.TestCase):
    def test_evidence(self):
        world = world_of(2)
        world.write(1, 1, ("set", "k", 1))
        world.write(0, 0, ("set", "k", 2))
        tell(world, 0, 1)
        world.read(2, 1, "register", "k")
        events, history = evidence_of(world)
        self.assertEqual(events, [world.written[(0, 1)], world.written[(1, 1)]])
        self.assertEqual(history, world.history)
        self.assertIsNone(fault_of_history(events, history))

    def test_it_is_new(self):
        world = world_of(1)
        world.write(0, 0, OPS[0])
        events, history = evidence_of(world)
        self.assertIsNot(history, world.history)
        history.clear()
        events.clear()
        self.assertEqual((len(world.history), len(world.written)), (1, 1))
        self.assertEqual(tuple(map(len, evidence_of(world))), (1, 1))

    def test_nothing_was_told(self):
        world = world_of(3, (0, 1))
        self.assertEqual(evidence_of(world), ([], []))
        world.admit(0, 2)
        self.assertEqual((len(world.written), evidence_of(world)), (1, ([], [])))

    def test_what_no_row_has_is_left_out(self):
        world = world_of(3)
        world.write(0, 0, ("inc", "k", 1))
        world.wipe(2)
        world.retire(1, 2)
        events, history = evidence_of(world)
        self.assertEqual(([e[:2] for e in events], len(history), len(world.written)), ([(0, 1)], 1, 3))
        # The rows of all clients count, and a read as much as a write.
        world.read(2, 1, "text", "k")
        self.assertEqual([e[:2] for e in evidence_of(world)[0]], [(0, 1), (1, 1), (1, 2)])

    def test_acks_that_a_crash_took_back(self):
        """They are noted still, and would be a fault; no row has them."""
        world = world_of(4)
        world.wipe(3)
        world.retire(1, 3)
        tell(world, 1, 0)
        world.wipe(2)
        world.retire(1, 2)
        tell(world, 1, 0)
        world.crash(0, 0)
        world.restart(0)
        world.write(0, 1, ("set", "k", 1))
        tell(world, 1, 0)
        world.read(1, 0, "register", "k")
        self.assertIsNotNone(fault_of_events(list(world.written.values())))
        events, history = evidence_of(world)
        self.assertEqual(len(events), len(world.written) - 1)
        self.assertIsNone(fault_of_history(events, history))

    def test_worlds_by_chance(self):
        rows = 0
        for seed in range(700, 740):
            course = Course(seed)
            for _ in range(150):
                course.perform(course.call())
            events, history = evidence_of(course.world)
            self.assertIsNone(fault_of_history(events, history))
            rows += len(history)
            # A changed answer is found at its row, if nothing is told ahead of it.
            for at, row in enumerate(history):
                if row[2] == "read":
                    changed = history[:at] + [row[:4] + (("?",),) + row[5:]] + history[at + 1:]
                    self.assertEqual(fault_of_history(events, changed), ("wrong", at))
        self.assertGreater(rows, 1000)


if __name__ == "__main__":
    unittest.main()
