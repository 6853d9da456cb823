"""What several tests need."""

from wakesafe.bench import Bench
from wakesafe.blocks import Bit, Block, Signal
from wakesafe.desk import Desk
from wakesafe.errors import Mismatch, NoRule, Refused
from wakesafe.formulas import Formula
from wakesafe.machines import Machine, Rule
from wakesafe.orders import Order
from wakesafe.runs import play

LETTERS = "abcdefghijklmnopqrstuvwxyz"
RESERVED = ["any", "none", "ask", "idle", "tick", "dip", "kept", "go", "hold", "note"]
NAMES = ["a", "z", "ab", "xyz", "abcd", "zzzz", "bit", "run", "off", "wake", "calm", "open", "save", "load", "cut",
         "held", "nota", "gone", "asks", "dips"]
NO_NAMES = RESERVED + ["", "abcde", "A", "aB", "a1", "1", "0", "&", "~", "a b", " a", "a ", "a\n", "\n", "a.b", "-", "_",
                       "\u00e9", "\u00df", "\u0430", "{", "`", "@", "["]

GOALS = ("blind", "hollow", "leak", "lost", "stuck", "swallowed", "wrong")
CONTENTS = ["right", "other", "unknown"]
# The block and the machines of the document's examples.
BLOCK = Block.read("bit x a kept keeper\nbit y b start\nsignal s f & x y")
GOOD_TEXT = "first run\nrun ask any -> run: answer\nrun idle calm -> off: hold, fence f, save a, cut a\n" \
            "off ask any -> wake: note, power a\nwake ask any -> wake: note\n" \
            "wake tick any -> run: load a, open f, go, answer"
GOOD = Machine.read(GOOD_TEXT)
HASTY = Machine.read(GOOD_TEXT.replace("hold, fence f, save a", "fence f, save a, hold"))
NO_GOALS = ["", "Blind", "blind ", " lost", "los", "loster", "lost wrong", "ask", "dip", "none", "x", "lost\n"]


def deep(depth):
    """A list in a list, so many deep."""
    value = []
    for _ in range(depth - 1):
        value = [value]
    return value


def objects():
    """One object of each class of the package that has a described ==."""
    rule = Rule("run", "ask", "any", "run", ["answer"])
    bit = Bit("x", "a")
    order = Order(["hold", "cut a"], [("hold", "cut a")])
    return [Formula.of("x"), bit, Signal("s", Formula.of("x")), Block([bit]), rule, Machine("run", [rule]), order]


def a_played():
    """What a run returns."""
    return play(BLOCK, GOOD, ["idle", "ask"])


def a_machine(*lines):
    """The machine with the first state run and rules with these texts."""
    return Machine.read("\n".join(["first run", *lines]))


def no_strings():
    """Values of all kinds but strings."""
    values = [0, 1, -1, 7, 10 ** 30, True, False, None, [], (), ["a"], ("a",), ["x", ["y", (1, None)]]]
    others = [a_played(), Bench(BLOCK, GOOD), Desk(), Mismatch(), Refused(0), NoRule(1)]
    return values + [deep(8), [objects()], (a_played(),), tuple(others)] + others + objects()


def no_names():
    """Values of all kinds that are no names."""
    return NO_NAMES + no_strings()


def no_bools():
    """Values of all kinds that are no bools."""
    return [value for value in no_names() + NAMES if not isinstance(value, bool)]


class Checks:
    """Checks that several test cases share."""

    def check_error(self, kind, parts, call, *given, **named):
        """The call raises an error of just this class with these attributes."""
        with self.assertRaises(kind) as caught:
            call(*given, **named)
        self.assertIs(type(caught.exception), kind, given)
        for name, value in parts.items():
            found = getattr(caught.exception, name)
            self.assertIs(type(found), type(value), given)
            self.assertEqual(found, value, given)

    def check_alone(self, thing):
        """The thing is equal to itself and to nothing of another kind."""
        self.assertTrue(thing == thing)
        self.assertFalse(thing != thing)
        for value in no_names() + NAMES + [str(thing)]:
            if type(value) is not type(thing):
                self.assertIs(thing == value, False)
                self.assertIs(thing != value, True)
                self.assertIs(value == thing, False)

    def check_not_iterable(self, thing):
        """The thing cannot be iterated over."""
        for walk in (list, tuple, iter, sorted):
            with self.assertRaises(TypeError):
                walk(thing)
        with self.assertRaises(TypeError):
            "x" in thing

    def check_operands(self, thing, signs):
        """Operators raise a TypeError for operands of other kinds, on both sides."""
        for value in no_names() + ["x"]:
            if type(value) is type(thing):
                continue
            for sign in signs:
                with self.assertRaises(TypeError):
                    sign(thing, value)
                with self.assertRaises(TypeError):
                    sign(value, thing)
