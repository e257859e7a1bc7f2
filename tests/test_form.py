"""The form of the code: that the interface stands where it should, and some rules of the language subset."""

import ast
import builtins
import os
import re
import tokenize
import unittest
import warnings

ROOT = os.path.dirname(os.path.dirname(os.path.abspath(__file__)))
PACKAGE = os.path.join(ROOT, "partmeet")

INTERFACE = {
    "partmeet.data.keys": ["KEY_SIGNS", "VALUE_SIGNS", "MOST_VALUE", "is_key(data)", "is_value(data)", "is_sign(data)",
                           "value_order(values)"],
    "partmeet.data.vectors": ["SITES", "NO_VECTOR", "is_dot(data)", "is_vector(data)", "knows(vector, dot)",
                              "covers(vector, other)", "joined(vector, other)", "least(vectors)",
                              "raised(vector, dot)"],
    "partmeet.data.events": ["MOST_NUMBER", "is_op(data)", "is_client_op(data)", "is_event(data)", "dot_of(event)",
                             "past_has(event, dot)"],
    "partmeet.packing.frames": ["MOST_PAYLOAD", "FRAME_HEAD", "check_of(octets)", "frame(payload)",
                                "whole_frames(octets)"],
    "partmeet.disk.disk": ["Disk", "Disk()", "Disk.append(payload)", "Disk.sync()", "Disk.renew(payload)",
                           "Disk.crash(count)", "Disk.payloads()", "Disk.unsynced()", "Disk.turn()", "Disk.images()",
                           "Disk.fork()"],
    "partmeet.base.base": ["Base", "Base()", "Base.fork()", "Base.as_data()", "base_of(data)"],
    "partmeet.base.answers": ["heads(base, held, key)", "places(base, held, key)", "latest(base, held, key)",
                              "members(base, held, key)", "counter(base, held, key)", "text(base, held, key)"],
    "partmeet.base.folding": ["folded(base, held, cut)"],
    "partmeet.knowing.cuts": ["cut_of(stable, held)"],
    "partmeet.knowing.knowing": ["Knowing", "Knowing(number, size, first)", "Knowing.note(event)",
                                 "Knowing.tell(sender, vector)", "Knowing.stable()", "Knowing.counting()",
                                 "Knowing.admit_of(site)", "Knowing.may_hand(other)", "Knowing.ack_of(site)",
                                 "Knowing.wants_ack()", "Knowing.may_take(event, heard)", "Knowing.as_data()",
                                 "Knowing.fork()", "knowing_of(data)"],
    "partmeet.replica.replica": ["MOST_NEWS", "Site", "Site(number, size, first)", "Site.write(op)",
                                 "Site.admit(other)", "Site.may_hand(other)", "Site.hand(other)",
                                 "Site.retire(other, absent)", "Site.hear(sender, news)", "Site.news_for(receiver)",
                                 "Site.take(event)", "Site.forget()", "Site.stable()", "Site.cut()",
                                 "Site.heard(other)", "Site.fresh()", "Site.latest(key)", "Site.heads(key)",
                                 "Site.counter(key)", "Site.members(key)", "Site.text(key)", "Site.places(key)",
                                 "Site.image()", "Site.fork()", "site_of(data)"],
    "partmeet.world.mail": ["Mail", "Mail()", "Mail.put(sender, receiver, body)", "Mail.look(number)",
                            "Mail.lose(number)", "Mail.double(number)", "Mail.check_link(number)",
                            "Mail.cut(sender, receiver)", "Mail.heal(sender, receiver)", "Mail.numbers()",
                            "Mail.cut_links()"],
    "partmeet.world.station": ["Station", "Station(number, size, first)", "Station.keep()", "Station.forget()",
                               "Station.begin(image)", "Station.crash(count)", "Station.restart()", "Station.wipe()",
                               "site_on(payloads, number, size, first)"],
    "partmeet.world.world": ["CLIENTS", "World", "World(size, first)", "World.write(client, site, op)",
                             "World.read(client, site, word, key)", "World.say(sender, receiver)",
                             "World.deliver(number)", "World.drop(number)", "World.double(number)",
                             "World.cut(sender, receiver)", "World.heal(sender, receiver)", "World.sync(site)",
                             "World.forget(site)", "World.crash(site, count)", "World.restart(site)",
                             "World.wipe(site)", "World.retire(site, other)", "World.admit(site, new)",
                             "World.hand(site, new)", "World.calm(rounds)", "World.perform(call)",
                             "answer_at(site, word, key)", "frozen(answer)"],
    "partmeet.twin.twin": ["events_of(world, vector)", "meant(events, word, key)",
                           "fault_of_site(site, events, keys_asked)", "fault_among(stations, written)",
                           "fault_of_world(world)", "is_at_rest(world)"],
    "partmeet.feeds.views": ["EMPTY_VIEW", "view_of(base, held, key)", "text_in(line)"],
    "partmeet.feeds.patches": ["patch_of(old, new)", "apply_patch(patch, view)"],
    "partmeet.feeds.edits": ["edits_of(old, new)", "apply_edits(edits, text)", "moved(edits, cursor)"],
    "partmeet.feeds.feed": ["Feed", "Feed(names)", "Feed.ask(site)", "Feed.as_data()", "Feed.fork()", "feed_of(data)",
                            "Follower", "Follower()", "Follower.take(told)", "Follower.view(key)"],
    "partmeet.judge.history": ["fault_of_history(events, history)", "evidence_of(world)"],
    "partmeet.clients.client": ["Client", "Client()", "Client.may_ask(vector)", "Client.saw(vector)"],
    "partmeet.packing.lines": ["MOST_DEPTH", "MOST_INTEGER", "pack(data)", "unpack(octets)"],
    "partmeet.meaning.values": ["heads_of(events, key)", "register_of(events, key)", "counter_of(events, key)",
                                "members_of(events, key)"],
    "partmeet.meaning.texts": ["line_of(events, key)", "places_of(events, key)", "text_of(events, key)"],
    "partmeet.judge.events": ["fault_of_events(events)"],
    "partmeet.errors": ["MeetError", "Malformed", "OutOfRange", "NotOp", "NoPlace", "Retired", "NoMessage", "LinkCut",
                        "NoSite", "Absent", "SiteDown", "SiteUp", "SiteGone", "StillThere", "NotReady", "NoClient",
                        "Behind"],
}

BUILTINS = """len range enumerate zip min max sum abs sorted reversed int str bool bytes list tuple dict set frozenset
isinstance ord repr any all divmod pow getattr hasattr setattr iter next map super type Exception ValueError TypeError
KeyError IndexError LookupError ZeroDivisionError ArithmeticError OverflowError RuntimeError NotImplementedError
AttributeError StopIteration NotImplemented""".split()

METHODS = """append clear copy count endswith extend find get index insert isalnum isalpha isdigit islower isspace
isupper items join keys ljust lower lstrip partition pop remove replace reverse rfind rjust rpartition rsplit rstrip
setdefault split splitlines startswith strip update upper values zfill bit_length title capitalize swapcase casefold
center expandtabs removeprefix removesuffix rindex isascii isdecimal isnumeric istitle isidentifier isprintable add
discard sort format""".split()

BARRED_NAMES = """register mro elements open input law version_info with_traceback add_note attrgetter breakpoint
builtins compile copyright credits delattr dir eval exec exit gc globals help id importlib license locals methodcaller
os quit vars sys""".split()

BARRED_WORDS = """typing typing_extensions enum Enum IntEnum StrEnum Flag IntFlag Generic Protocol ABC ABCMeta
namedtuple NamedTuple TypedDict TYPE_CHECKING abstractmethod _wall _WallAttr""".split()

NO_ATTRIBUTES = """items keys values pop update append clear extend insert remove reverse setdefault sort args encode
decode hex fromhex format""".split()

# What the package may import from outside, of all that it might.
LIBRARY = {"itertools": ["accumulate"]}

BARRED_NODES = (ast.AsyncFunctionDef, ast.AsyncFor, ast.AsyncWith, ast.Await, ast.Import, ast.Div, ast.Global)


def files():
    found = []
    for folder, folders, names in os.walk(PACKAGE):
        if "__pycache__" in folders:
            folders.remove("__pycache__")
        found += [os.path.join(folder, name) for name in names]
    return sorted(found)


def module_name(path):
    name = os.path.relpath(path, ROOT)[:-len(".py")].replace(os.sep, ".")
    return name.removesuffix(".__init__")


def read(path):
    with open(path, encoding="utf-8") as stream:
        return stream.read()


def bound_names(tree):
    """All names that a tree binds: by assignments, loops, parameters, functions, classes, imports."""
    found = []
    for node in ast.walk(tree):
        if isinstance(node, ast.Name) and not isinstance(node.ctx, ast.Load):
            found.append(node.id)
        if isinstance(node, ast.arg):
            found.append(node.arg)
        if isinstance(node, (ast.FunctionDef, ast.ClassDef)):
            found.append(node.name)
        if isinstance(node, ast.alias):
            found.append(node.asname or node.name)
    return found


def top_names(tree):
    """The names that a module defines itself."""
    found = [node.name for node in tree.body if isinstance(node, (ast.FunctionDef, ast.ClassDef))]
    return found + [node.targets[0].id for node in tree.body if isinstance(node, ast.Assign)]


def methods_of(node):
    """The methods of a class, with their parameters, behind the class's own name; what makes an object likewise."""
    found = []
    for method in node.body:
        if isinstance(method, ast.FunctionDef):
            parameters = ast.unparse(method.args).removeprefix("self").removeprefix(", ")
            name = node.name if method.name == "__init__" else f"{node.name}.{method.name}"
            found.append(f"{name}({parameters})")
    return found


def told_names(tree):
    """The names that a module defines itself, functions and methods with their parameters."""
    found = top_names(tree)
    for node in tree.body:
        if isinstance(node, ast.FunctionDef):
            found.append(f"{node.name}({ast.unparse(node.args)})")
        if isinstance(node, ast.ClassDef):
            found += methods_of(node)
    return found


def own_methods(tree):
    return [method.name for node in tree.body if isinstance(node, ast.ClassDef)
            for method in node.body if isinstance(method, ast.FunctionDef)]


def own_attributes(tree):
    return [node.attr for node in ast.walk(tree)
            if isinstance(node, ast.Attribute) and isinstance(node.ctx, ast.Store)]


def docstrings(tree):
    found = []
    for node in ast.walk(tree):
        if isinstance(node, (ast.Module, ast.ClassDef, ast.FunctionDef)) and ast.get_docstring(node) is not None:
            found.append(node.body[0].value)
    return found


def trees():
    return [(path, ast.parse(read(path))) for path in files()]


class Form(unittest.TestCase):
    def test_the_interface(self):
        for name, wanted in INTERFACE.items():
            path = os.path.join(ROOT, *name.split(".")) + ".py"
            found = told_names(ast.parse(read(path)))
            self.assertEqual([each for each in wanted if each not in found], [], name)

    def test_files_and_lines(self):
        for path in files():
            self.assertRegex(os.path.basename(path), r"^[a-z0-9_]+\.py$")
            self.assertTrue(os.path.exists(os.path.join(os.path.dirname(path), "__init__.py")))
            text = read(path)
            self.assertTrue(all(sign == "\n" or " " <= sign <= "~" for sign in text), path)
            self.assertTrue(text.endswith("\n"), path)
            self.assertLessEqual(len(text.splitlines()), 399, path)
            for line in text.splitlines():
                self.assertLessEqual(len(line), 120, path)
                self.assertEqual(line, line.rstrip(), path)

    def test_no_warnings(self):
        for path in files():
            with warnings.catch_warnings():
                warnings.simplefilter("error")
                compile(read(path), path, "exec")

    def test_functions_are_small_and_told(self):
        for path, tree in trees():
            self.assertIsNotNone(ast.get_docstring(tree))
            for node in ast.walk(tree):
                if isinstance(node, (ast.FunctionDef, ast.ClassDef)):
                    self.assertIsNotNone(ast.get_docstring(node), node.name)
                if isinstance(node, ast.FunctionDef):
                    self.assertLessEqual(node.end_lineno - node.lineno + 1, 40, node.name)

    def test_statements(self):
        for path, tree in trees():
            for node in ast.walk(tree):
                self.assertNotIsInstance(node, BARRED_NODES)
                self.assertFalse(isinstance(node, ast.Constant) and isinstance(node.value, (float, complex)))
            for node in tree.body:
                self.assertIsInstance(node, (ast.Expr, ast.ImportFrom, ast.FunctionDef, ast.ClassDef, ast.Assign))

    def test_imports(self):
        edges = {}
        for path, tree in trees():
            # A method may have the name of an import: it is read off objects alone.
            bound = sorted(bound_names(tree))
            for name in own_methods(tree):
                bound.remove(name)
            used = [node.id for node in ast.walk(tree) if isinstance(node, ast.Name)]
            for node in tree.body:
                if isinstance(node, ast.ImportFrom) and node.module in LIBRARY:
                    for alias in node.names:
                        self.assertIn(alias.name, LIBRARY[node.module])
                        self.assertIsNone(alias.asname)
                        self.assertEqual(bound.count(alias.name), 1, alias.name)
                elif isinstance(node, ast.ImportFrom):
                    self.assertEqual(node.level, 0)
                    self.assertTrue(node.module.startswith("partmeet."))
                    edges.setdefault(module_name(path), []).append(node.module)
                    defined = top_names(ast.parse(read(os.path.join(ROOT, *node.module.split(".")) + ".py")))
                    for alias in node.names:
                        self.assertIn(alias.name, defined)
                        self.assertIn(alias.asname or alias.name, used)
                        self.assertEqual(bound.count(alias.asname or alias.name), 1, alias.name)
        while edges:
            leaves = [name for name in edges if not [other for other in edges[name] if other in edges]]
            self.assertNotEqual(leaves, [], "modules import one another")
            edges = {name: edges[name] for name in edges if name not in leaves}

    def test_names(self):
        own = [name for path, tree in trees() for name in own_methods(tree) + own_attributes(tree)]
        for path, tree in trees():
            for name in bound_names(tree):
                # A test of examples leaves the name of the last answer among the builtins.
                self.assertNotIn(name, [each for each in dir(builtins) if each != "_"])
                self.assertNotIn(name, BARRED_NAMES)
                self.assertRegex(name, r"^(_|_?[A-Za-z][A-Za-z0-9_]*|__init__)$")
            for node in ast.walk(tree):
                if isinstance(node, ast.Name) and node.id in dir(builtins) and node.id != "_":
                    self.assertIn(node.id, BUILTINS)
                if isinstance(node, ast.Attribute):
                    self.assertIn(node.attr, METHODS + own)

    def test_attributes(self):
        for path, tree in trees():
            for name in own_attributes(tree):
                self.assertNotIn(name, NO_ATTRIBUTES)
                self.assertNotIn(name, own_methods(tree))

    def test_words(self):
        for path in files():
            for word in BARRED_WORDS:
                self.assertIsNone(re.search(rf"\b{word}\b", read(path)), (path, word))
            self.assertIsNone(re.search(r"\btype\b(?!\()", read(path)), path)

    def test_strings(self):
        for path, tree in trees():
            told = docstrings(tree)
            for node in ast.walk(tree):
                if isinstance(node, ast.Constant) and isinstance(node.value, str) and node not in told:
                    self.assertNotIn(chr(37), node.value)
                    self.assertNotIn("__", node.value)
            with open(path, "rb") as stream:
                for token in tokenize.tokenize(stream.readline):
                    if token.type == tokenize.STRING:
                        self.assertIsNone(re.search(r"\\[^nt\\\"']", token.string.replace("\\\\", "")), token.string)


if __name__ == "__main__":
    unittest.main()
