"""threerims.console: every command, every text of failure and their order; [103]."""

import itertools
import re
import time

from threerims.catalogue import Catalogue
from threerims.concave import count_solutions
from threerims.console import Console
from threerims.factors import realize
from threerims.products import dimension, multiplicities
from tests.helper import HUGE, PRIMES, Numbers, Plain, TestCase, doubled, not_integers, partitions_from

NAME = "[a-z]{1,8}"
NUMBER = "(0|[1-9][0-9]{0,5})"
FORMS = (
    f"new {NUMBER} {NUMBER}",
    f"store {NAME}( {NUMBER})+",
    f"remove {NAME}",
    f"rename {NAME} {NAME}",
    "undo",
    "names",
    f"show {NAME}",
    f"dimension {NAME}",
    f"product {NAME} {NAME}",
    f"contains {NAME} {NAME} {NAME}",
    f"realize {NAME} {NAME} {NAME}",
)
COMMANDS = (
    "new 2 5", "new 4 97", "new 1 2", "store d 1 0", "store a 1 0", "store d 12 12", "remove a", "remove d",
    "rename a d", "rename a b", "rename d a", "rename a a", "undo", "names", "show a", "show d", "dimension a",
    "dimension d", "product a b", "product a d", "product d a", "contains c a b", "contains a b c", "contains d a b",
    "contains a d b", "contains a b d", "realize a b c", "realize a b a", "realize d a b", "realize a b d",
    "new 0 5", "new 5 5", "new 2 4", "new 0 4", "new 2 0", "store d 1", "store d 1 0 0", "store d 1 2", "store d 13 0",
    "store a 1 2", "store d 999999 0",
)


def is_form(value):
    return isinstance(value, str) and any(re.fullmatch(form, value) for form in FORMS)


class Model:
    """What a console must answer, with all states of its catalogue."""

    def __init__(self):
        self.size, self.prime, self.states = None, None, None

    def run(self, command):
        if not is_form(command):
            return "bad command"
        word, *rest = command.split(" ")
        if word == "new":
            return self.new(int(rest[0]), int(rest[1]))
        if self.states is None:
            return "no catalogue"
        state = self.states[-1]
        known = {"store": 0, "rename": 1}.get(word, len(rest))
        if any(name not in state for name in rest[:known]):
            return "unknown name"
        return getattr(self, word)(state, *rest)

    def new(self, size, prime):
        if not 1 <= size <= 4:
            return "bad size"
        if prime not in PRIMES:
            return "bad prime"
        self.size, self.prime, self.states = size, prime, [{}]
        return "ok"

    def change(self, state):
        self.states.append(state)
        return "ok"

    def store(self, state, name, *words):
        numbers = tuple(int(word) for word in words)
        if name in state:
            return "duplicate name"
        if len(numbers) != self.size or list(numbers) != sorted(numbers, reverse=True) or numbers[0] > 12:
            return "bad partition"
        return self.change({**state, name: numbers})

    def remove(self, state, name):
        return self.change({key: state[key] for key in state if key != name})

    def rename(self, state, name, other):
        if other in state:
            return "duplicate name"
        return self.change({(other if key == name else key): state[key] for key in state})

    def undo(self, state):
        if len(self.states) == 1:
            return "nothing to undo"
        self.states.pop()
        return "ok"

    def names(self, state):
        return " ".join(sorted(state)) or "none"

    def show(self, state, name):
        return " ".join(str(entry) for entry in state[name])

    def dimension(self, state, name):
        return str(dimension(state[name]))

    def product(self, state, name, other):
        if state[other][0] > 8:
            return "limit exceeded"
        items = [" ".join(map(str, c)) + f" x {many}" for c, many in multiplicities(state[name], state[other])]
        return "; ".join(items)

    def contains(self, state, whole, part, rest):
        return "yes" if count_solutions(state[part], state[rest], state[whole]) else "no"

    def realize(self, state, *names):
        kind, value = realize(*[state[name] for name in names], self.prime)
        return f"sums {value}" if kind == "sums" else kind


def console_with(size=2, prime=5, stored=(("a", "2 1"), ("b", "1 0"), ("c", "3 1"))):
    found = Console()
    found.run(f"new {size} {prime}")
    for name, entries in stored:
        found.run(f"store {name} {entries}")
    return found


def listing(console):
    """Return all that the console holds, read by commands that change nothing."""
    names = console.run("names")
    if names in ("none", "no catalogue"):
        return names
    return [(name, console.run("show " + name)) for name in names.split(" ")]


def changed_lines(line):
    """Return the line with one sign or word changed, in many ways."""
    words = line.split(" ")
    found = [" " + line, line + " ", line.replace(" ", "  ", 1), line + "\n", "\n" + line, line.replace(" ", "\n", 1),
             line.replace(" ", "\t"), line.upper(), line.title(), line[::-1], line + ".", "", " ", "\n", line + "\n" + line,
             line + ";"]
    for at in range(len(words) + 1):
        for word in ("a", "1", "A", "01", "-1", "+1", "1.0", "x1", "", "abcdefgh", "abcdefghi", "123456", "1234567", "00",
                     "0", "1_0", "names", "new", "store", "none"):
            found += [" ".join(words[:at] + [word] + words[at:]), " ".join(words[:at] + [word] + words[at + 1:])]
        found.append(" ".join(words[:at] + words[at + 1:]))
    return found


class Form(TestCase):

    def test_example(self):
        self.assert_same(Console().run("names"), "no catalogue")

    def test_methods_are_defined_in_the_class(self):
        self.assertIn("__init__", vars(Console))
        self.assertIn("run", vars(Console))

    def test_arguments_by_name(self):
        self.assert_same(console_with().run(command="names"), "a b c")
        self.assertRaises(TypeError, Console().run)
        self.assertRaises(TypeError, Console().run, "names", "names")
        self.assertRaises(TypeError, Console, 1)

    def test_values_that_are_no_commands(self):
        values = [value for _, value in not_integers()] + [0, 1, HUGE, b"names", ["names"], ("names",), {"names": 1},
                                                           Plain(), doubled("names"), Catalogue(2, 5), Console()]
        for console in (Console(), console_with()):
            before = listing(console)
            for value in values:
                self.assert_same(console.run(value), "bad command")
            self.assertEqual(listing(console), before)

    def test_every_form(self):
        for command in COMMANDS:
            self.assertTrue(is_form(command))
            expected = ("no catalogue",) if not command.startswith("new") else ("ok", "bad size", "bad prime")
            self.assertIn(Console().run(command), expected)
            self.assertNotIn(console_with().run(command), ("bad command", "no catalogue"))

    def test_forms_with_one_change(self):
        seen = set()
        for line in COMMANDS:
            for changed in changed_lines(line):
                found = Console().run(changed)
                self.assertIs(found.__class__, str)
                self.assertEqual(found == "bad command", not is_form(changed), repr(changed))
                if not is_form(changed):
                    self.assert_same(console_with().run(changed), "bad command")
                seen.add(found)
        self.assertEqual(seen, {"bad command", "no catalogue", "ok", "bad size", "bad prime"})

    def test_lengths_of_names_and_integers(self):
        console = console_with()
        for name, expected in (("z" * 8, "unknown name"), ("z" * 9, "bad command"), ("z", "unknown name")):
            for form in ("show {}", "remove {}", "rename {} d", "rename a {}", "dimension {}", "product a {}", "realize a b {}"):
                if form != "rename a {}":
                    self.assert_same(console.run(form.format(name)), expected)
        for number, expected in (("999999", "bad partition"), ("1000000", "bad command"), ("000001", "bad command")):
            self.assert_same(console.run(f"store d {number} 0"), expected)
        self.assert_same(console.run("new 999999 999999"), "bad size")
        self.assert_same(console.run("new 2 999999"), "bad prime")
        self.assert_same(console.run("new 2 1000000"), "bad command")

    def test_store_needs_an_entry(self):
        for name in ("a", "d"):
            self.assert_same(console_with().run("store " + name), "bad command")
        self.assert_same(console_with().run("store d 1"), "bad partition")
        self.assert_same(console_with().run("store d" + " 1" * 5000), "bad partition")
        self.assert_same(console_with().run("store a" + " 1" * 5000), "duplicate name")
        self.assert_same(Console().run("store a" + " 1" * 5000), "no catalogue")

    def test_words_of_commands_as_names(self):
        console = console_with(1, 2, ())
        for name in ("store", "new", "undo", "names", "none", "x", "sums", "matrices"):
            self.assert_same(console.run(f"store {name} 3"), "ok")
            self.assert_same(console.run(f"show {name}"), "3")
        self.assert_same(console.run("names"), "matrices names new none store sums undo x")

    def test_long_texts(self):
        for text in ("x" * 20000, " " * 20000, "\n" * 20000, "9" * 20000, "names " * 3000, "new " + "9" * 19990 + " 5",
                     "show " + "a" * 19990):
            self.assert_same(Console().run(text), "bad command")
            self.assert_same(console_with().run(text), "bad command")


class Results(TestCase):

    def test_results(self):
        console = Console()
        for command, expected in (
            ("new 2 5", "ok"), ("names", "none"), ("store b 1 0", "ok"), ("store a 2 1", "ok"), ("names", "a b"),
            ("show a", "2 1"), ("dimension a", "2"), ("product a b", "3 1 x 1; 2 2 x 1"), ("store c 3 1", "ok"),
            ("contains c a b", "yes"), ("contains c b a", "yes"), ("contains a b c", "no"), ("realize a b c", "matrices"),
            ("realize a a b", "sums 5"), ("realize b b c", "sums -2"), ("store d 4 0", "ok"), ("realize a b d", "tiling"),
            ("rename a x", "ok"), ("names", "b c d x"), ("remove b", "ok"), ("names", "c d x"), ("undo", "ok"),
            ("show b", "1 0"), ("undo", "ok"), ("names", "a b c d"), ("undo", "ok"), ("names", "a b c"),
            ("new 3 2", "ok"), ("names", "none"), ("undo", "nothing to undo"), ("store a 2 1 0", "ok"),
            ("product a a", "4 2 0 x 1; 4 1 1 x 1; 3 3 0 x 1; 3 2 1 x 2; 2 2 2 x 1"), ("dimension a", "8"),
            ("store e 9 0 0", "ok"), ("product a e", "limit exceeded"), ("store f 8 0 0", "ok"),
            ("product e f", "17 0 0 x 1; 16 1 0 x 1; 15 2 0 x 1; 14 3 0 x 1; 13 4 0 x 1; 12 5 0 x 1; 11 6 0 x 1; "
                            "10 7 0 x 1; 9 8 0 x 1"),
        ):
            self.assert_same(console.run(command), expected)

    def test_all_small_partitions(self):
        for size in (1, 2, 3, 4):
            for a, b, c in itertools.product(partitions_from(size, 0, (3, 2, 1, 1)[size - 1]), repeat=3):
                console, model = Console(), Model()
                lines = [f"new {size} 3"] + [f"store {name} {' '.join(map(str, partition))}"
                                             for name, partition in zip("abc", (a, b, c))]
                lines += ["show a", "dimension b", "product a b", "contains c a b", "realize a b c", "realize c b a"]
                for line in lines:
                    self.assert_same(console.run(line), model.run(line))

    def test_greatest_entries(self):
        console, model = Console(), Model()
        for line in ("new 4 97", "store a 12 8 4 0", "store b 12 12 12 12", "store c 8 5 3 0", "store d 9 0 0 0", "dimension a",
                     "dimension b", "product a c", "product a b", "product c d", "product d c", "realize a c b", "contains b a c"):
            self.assert_same(console.run(line), model.run(line))

    def test_every_size_and_prime(self):
        for size, prime in itertools.product(range(8), range(120)):
            console, model = console_with(), Model()
            line = f"new {size} {prime}"
            self.assert_same(console.run(line), model.run(line))
            self.assertEqual(listing(console), "none" if model.states else listing(console_with()))


class Failures(TestCase):

    def test_no_catalogue(self):
        console = Console()
        for command in COMMANDS:
            if not command.startswith("new"):
                self.assert_same(console.run(command), "no catalogue")
        for command, expected in (("new 0 4", "bad size"), ("new 5 2", "bad size"), ("new 2 4", "bad prime")):
            self.assert_same(console.run(command), expected)
            self.assert_same(console.run("names"), "no catalogue")

    def test_bad_size_comes_before_bad_prime(self):
        for size, prime in itertools.product((0, 5, 6, 100, 999999), (0, 1, 4, 91, 98, 101, 999999, 2)):
            self.assert_same(console_with().run(f"new {size} {prime}"), "bad size")

    def test_unknown_names_come_before_duplicate_names(self):
        self.assert_same(console_with().run("rename d a"), "unknown name")
        self.assert_same(console_with().run("rename d d"), "unknown name")
        self.assert_same(console_with().run("rename a a"), "duplicate name")
        self.assert_same(console_with().run("rename a b"), "duplicate name")

    def test_duplicate_names_come_before_bad_partitions(self):
        for entries in ("1 2", "13 0", "1", "1 0 0", "999999 1"):
            self.assert_same(console_with().run("store a " + entries), "duplicate name")
            self.assert_same(console_with().run("store d " + entries), "bad partition")

    def test_unknown_names_come_before_the_limit(self):
        console = console_with(stored=(("a", "9 0"), ("b", "1 0")))
        self.assert_same(console.run("product a a"), "limit exceeded")
        self.assert_same(console.run("product b a"), "limit exceeded")
        self.assert_same(console.run("product a b"), "10 0 x 1; 9 1 x 1")
        self.assert_same(console.run("product d a"), "unknown name")
        self.assert_same(console.run("product a d"), "unknown name")

    def test_every_text(self):
        console = console_with(stored=(("a", "9 0"),))
        found = {console.run(line) for line in ("x", "new 9 2", "new 2 9", "show d", "rename a a", "store d 1", "undo", "undo",
                                                "store a 9 0", "product a a")}
        found.add(Console().run("undo"))
        self.assertEqual(found, {"bad command", "no catalogue", "bad size", "bad prime", "unknown name", "duplicate name",
                                 "bad partition", "nothing to undo", "limit exceeded", "ok"})

    def test_commands_that_fail_change_nothing(self):
        for command in COMMANDS + ("", "names ", "new", "store", "show A", "product a"):
            console = console_with()
            before = listing(console)
            if console.run(command) in ("bad command", "bad size", "bad prime", "unknown name", "duplicate name",
                                        "bad partition", "limit exceeded"):
                self.assertEqual(listing(console), before)
                self.assert_same(console.run("undo"), "ok")
                self.assertEqual(listing(console), before[:-1])


class Runs(TestCase):

    def some_line(self, numbers):
        def name():
            return ("a", "b", "c", "ab", "abcdefgh", "d")[numbers.below(6)]

        def entries():
            many = 2 if numbers.below(8) else numbers.between(1, 4)
            found = sorted((numbers.below(4 if numbers.below(3) else 14) for _ in range(many)), reverse=bool(numbers.below(8)))
            return " ".join(map(str, found))

        kind = numbers.below(30)
        if kind == 0:
            return f"new {numbers.between(0, 5)} {numbers.between(0, 7)}" if numbers.below(3) == 0 else "new 2 7"
        if kind < 12:
            return f"store {name()} {entries()}"
        if kind == 29:
            return changed_lines(COMMANDS[numbers.below(len(COMMANDS))])[numbers.below(40)]
        return (f"remove {name()}", f"rename {name()} {name()}", "undo", "names", f"show {name()}", f"dimension {name()}",
                f"product {name()} {name()}", f"contains {name()} {name()} {name()}",
                f"realize {name()} {name()} {name()}")[kind % 9]

    def test_long_runs(self):
        seen = set()
        for seed in range(30):
            numbers, console, model = Numbers(seed), Console(), Model()
            for _ in range(300):
                line = self.some_line(numbers)
                expected = model.run(line)
                self.assert_same(console.run(line), expected)
                seen.add("sums" if expected.startswith("sums") else expected)
            expected = "no catalogue" if model.states is None else model.names(model.states[-1])
            self.assert_same(console.run("names"), expected)
        self.assertEqual({"ok", "bad command", "no catalogue", "bad size", "bad prime", "unknown name", "none",
                          "duplicate name", "bad partition", "nothing to undo", "limit exceeded", "yes", "no",
                          "matrices", "tiling", "sums"} - seen, set())

    def test_consoles_do_not_share_a_catalogue(self):
        one, two = Console(), Console()
        one.run("new 2 5")
        self.assert_same(two.run("names"), "no catalogue")
        two.run("new 2 5")
        one.run("store a 1 0")
        self.assert_same((one.run("names"), two.run("names")), ("a", "none"))
        self.assert_same(two.run("undo"), "nothing to undo")


class Times(TestCase):

    def test_many_commands(self):
        start = time.process_time()
        console = console_with(4, 2, (("a", "8 5 3 0"), ("b", "12 8 4 0")))
        for _ in range(20):
            console.run("product b a")
            console.run("realize a a b")
            console.run("contains b a a")
        self.assertLess(time.process_time() - start, 10)
