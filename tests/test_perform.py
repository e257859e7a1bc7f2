"""Point [72]: calls that are told by tuples."""

import unittest

from partmeet.errors import NoClient, NoMessage, NoSite, NotOp, OutOfRange
from tests.sites import vector
from tests.states import WorldTest, state_of, tell, unsynced, world_of

OP = ("set", "k", 1)

# A call of each word with what it may be passed in a world as `some_world` makes it, and for each argument whether it
# is a number.
CALLS = {
    ("write", 0, 0, OP): (True, True, False),
    ("read", 0, 0, "text", "k"): (True, True, False, False),
    ("say", 0, 1): (True, True),
    ("deliver", 0): (True,),
    ("drop", 0): (True,),
    ("double", 0): (True,),
    ("cut", 0, 1): (True, True),
    ("heal", 0, 1): (True, True),
    ("sync", 1): (True,),
    ("forget", 1): (True,),
    ("crash", 1, 0): (True, True),
    ("restart", 2): (True,),
    ("wipe", 1): (True,),
    ("retire", 0, 3): (True, True),
    ("admit", 0, 4): (True, True),
    ("hand", 1, 5): (True, True),
    ("calm", 1): (True,),
}


def some_world():
    """A world in which each call of the table is allowed: a message is there, and site 1 has something to forget."""
    world = world_of(6, (0, 1, 2, 3))
    world.say(0, 1)
    world.write(0, 0, ("inc", "k", 1))
    tell(world, 0, 1, 2, 1, 3, 1)
    world.admit(1, 5)
    for site in (0, 2, 3):
        tell(world, 1, site, 1)
    world.crash(2, 0)
    world.wipe(3)
    world.cut(2, 1)
    world.write(0, 0, ("inc", "k", 1))
    tell(world, 0, 1)
    return world


class Words(WorldTest):
    def test_each_word(self):
        for call in CALLS:
            with self.subTest(call=call):
                one, other = some_world(), some_world()
                self.assertEqual(state_of(one), state_of(other))
                answer = one.perform(call)
                self.assertEqual(answer, getattr(other, call[0])(*call[1:]))
                self.assertEqual(state_of(one), state_of(other))
                if call[0] != "heal":
                    self.assertNotEqual(state_of(one), state_of(some_world()))

    def test_what_they_return(self):
        world = some_world()
        many = world.mail.put(0, 1, world.mail.look(0)[2])
        for call, wanted in (
                (("write", 0, 0, OP), (0, 3)), (("read", 0, 0, "register", "k"), [1]), (("say", 0, 1), many + 1),
                (("double", many), many + 2), (("deliver", many + 2), None), (("drop", many), None),
                (("cut", 0, 1), None), (("heal", 0, 1), None), (("sync", 1), None), (("forget", 1), 1),
                (("hand", 1, 5), None), (("crash", 1, 0), None), (("restart", 1), None), (("retire", 0, 3), (0, 4)),
                (("retire", 0, 3), None), (("admit", 0, 4), (0, 6)), (("wipe", 2), None), (("calm", 1), None)):
            answer = world.perform(call)
            self.assertEqual((answer, answer.__class__), (wanted, wanted.__class__), call)

    def test_forget_returns_how_many(self):
        world = world_of(2)
        world.perform(("write", 0, 0, OP))
        world.perform(("deliver", world.perform(("say", 0, 1))))
        self.assertEqual((world.perform(("forget", 1)), world.perform(("forget", 0))), (1, 0))

    def test_calls_that_are_refused(self):
        world = some_world()
        for call, error in ((("write", 3, 0, OP), NoClient), (("write", 0, 6, OP), NoSite), (("drop", 99), NoMessage),
                            (("write", 0, 0, ("ack", (1,))), NotOp), (("crash", 0, 1000001), OutOfRange),
                            (("calm", 201), OutOfRange)):
            self.assertRefused(error, world, *call)


class NoCalls(unittest.TestCase):
    def assertNoCall(self, world, call):
        before = state_of(world)
        with self.assertRaises(OutOfRange, msg=call) as caught:
            world.perform(call)
        self.assertIs(caught.exception.__class__, OutOfRange)
        self.assertEqual(state_of(world), before)

    def test_no_word_and_other_words(self):
        world = some_world()
        for call in ((), ("",), ("Write", 0, 0, OP), ("writes", 0, 0, OP), ("perform", ("sync", 0)), ("stations",),
                     ("_keep", 0), ("_kind_round",), ("__init__", 2, (0,)), ("begin", 1), ("numbers",), ("calm ", 1),
                     (0,), (None,), (True, 0), (("sync", 0),), (5, "sync", 0), ("answer_at", 0, "text", "k"),
                     ([],), (["sync"], 0)):
            self.assertNoCall(world, call)

    def test_too_few_and_too_many_arguments(self):
        world = some_world()
        for call in CALLS:
            for few in range(1, len(call)):
                self.assertNoCall(world, call[:few])
            for more in (0, None, "k", ()):
                self.assertNoCall(world, call + (more,))
            self.assertNoCall(world, call[:1] + call)

    def test_what_is_no_number(self):
        world = some_world()
        for call, numbers in CALLS.items():
            for at, is_number in enumerate(numbers):
                for other in (True, False, None, "0", "", -1, -5, (), (0,)):
                    if is_number:
                        self.assertNoCall(world, call[:at + 1] + (other,) + call[at + 2:])

    def test_what_is_no_number_comes_ahead_of_what_a_call_refuses(self):
        world = some_world()
        for call in (("write", 9, True, OP), ("read", 9, -1, "none", "K"), ("say", 9, -1), ("retire", 9, None),
                     ("crash", 9, -1), ("crash", 9, True), ("cut", 9, False), ("write", True, 9, ("ack", ()))):
            self.assertNoCall(world, call)

    def test_what_else_is_passed_is_for_the_call_to_refuse(self):
        world = some_world()
        for op in (None, True, -1, (), "set"):
            with self.assertRaises(NotOp):
                world.perform(("write", 0, 0, op))
        for word, key in (("text", "K"), ("none", "k"), ("text", "")):
            self.assertNoCall(world, ("read", 0, 0, word, key))

    def test_0_is_a_number(self):
        world = world_of(2)
        self.assertEqual(world.perform(("write", 0, 0, OP)), (0, 1))
        self.assertEqual(world.perform(("say", 0, 1)), 0)
        world.perform(("deliver", 0))
        world.perform(("crash", 1, 0))
        world.perform(("calm", 0))
        self.assertEqual((world.stations[1].state, unsynced(world, 1), world.clients[0].token),
                         ("down", 0, vector(1)))


if __name__ == "__main__":
    unittest.main()
