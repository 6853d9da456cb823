"""Promises 8 to 10: blocks."""

import itertools
import operator
import unittest

from wakesafe.blocks import Bit, Block, Signal
from wakesafe.errors import InvalidBlock, InvalidText, NoName
from wakesafe.formulas import Formula
from tests.helper import Checks, NAMES, RESERVED, no_bools, no_names, no_strings, objects

BITS = ["bit x a", "bit x a kept", "bit x a kept keeper", "bit x a start", "bit x a kept start",
        "bit x a kept keeper start", "bit bit bit", "bit keep a", "bit a a kept"]
SIGNALS = ["signal s none x", "signal s f x", "signal s f & x y", "signal sig f x",
           "signal s s s", "signal s none | 1 0", "signal open open ~ x"]
BLOCK = "bit x b kept keeper\nbit y a start\nbit z b\nsignal s g & x y\nsignal t none z\nsignal x f x\nsignal u g 1"


class BitTest(Checks, unittest.TestCase):
    def test_attributes(self):
        for kept, keeper, start in itertools.product([False, True], repeat=3):
            if keeper and not kept:
                continue
            bit = Bit("x", "a", kept, keeper, start)
            self.assertEqual((bit.name, bit.area), ("x", "a"))
            self.assertEqual((bit.kept, bit.keeper, bit.start), (kept, keeper, start))
            text = "bit x a" + " kept" * kept + " keeper" * keeper + " start" * start
            self.assertEqual(str(bit), text)

    def test_defaults(self):
        bit = Bit("x", "a")
        self.assertIs(bit.kept, False)
        self.assertIs(bit.keeper, False)
        self.assertIs(bit.start, False)

    def test_names(self):
        for name in NAMES:
            self.assertEqual((Bit(name, "a").name, Bit("x", name).area), (name, name))

    def test_wrong_arguments(self):
        for value in no_names():
            self.check_error(InvalidBlock, {"word": "name"}, Bit, value, "a")
            self.check_error(InvalidBlock, {"word": "area"}, Bit, "x", value)
        for value in no_bools():
            self.check_error(InvalidBlock, {"word": "kept"}, Bit, "x", "a", value)
            self.check_error(InvalidBlock, {"word": "keeper"}, Bit, "x", "a", True, value)
            self.check_error(InvalidBlock, {"word": "keeper"}, Bit, "x", "a", False, value)
            self.check_error(InvalidBlock, {"word": "start"}, Bit, "x", "a", True, True, value)
            self.check_error(InvalidBlock, {"word": "start"}, Bit, "x", "a", False, False, value)

    def test_keeper_of_a_bit_that_is_not_kept(self):
        self.check_error(InvalidBlock, {"word": "keeper"}, Bit, "x", "a", False, True)
        self.check_error(InvalidBlock, {"word": "keeper"}, Bit, "x", "a", keeper=True)
        self.check_error(InvalidBlock, {"word": "keeper"}, Bit, "x", "a", False, True, True)

    def test_order_of_errors(self):
        self.check_error(InvalidBlock, {"word": "name"}, Bit, "go", 1, 1, 1, 1)
        self.check_error(InvalidBlock, {"word": "area"}, Bit, "x", "go", 1, 1, 1)
        self.check_error(InvalidBlock, {"word": "kept"}, Bit, "x", "a", 0, True, 1)
        self.check_error(InvalidBlock, {"word": "keeper"}, Bit, "x", "a", False, True, 1)

    def test_equal(self):
        bits = []
        for name, area in (("x", "a"), ("x", "b"), ("y", "a")):
            for marks in ((), (True,), (True, True), (False, False, True), (True, False, True), (True, True, True)):
                bits.append((name, area) + marks)
        for first, second in itertools.product(bits, bits):
            self.assertIs(Bit(*first) == Bit(*second), first == second)
            self.assertIs(Bit(*first) != Bit(*second), first != second)
        self.check_alone(Bit("x", "a"))
        self.assertEqual(Bit("x", "a", False, False, False), Bit("x", "a"))


class SignalTest(Checks, unittest.TestCase):
    def test_attributes(self):
        formula = Formula.read("& x y")
        signal = Signal("s", formula, "f")
        self.assertEqual((signal.name, str(signal.formula), signal.fence), ("s", "& x y", "f"))
        self.assertEqual(str(signal), "signal s f & x y")
        bare = Signal("s", formula)
        self.assertIs(bare.fence, None)
        self.assertEqual(str(bare), "signal s none & x y")
        self.assertEqual(str(Signal("s", formula, None)), "signal s none & x y")

    def test_wrong_arguments(self):
        formula = Formula.of("x")
        for value in no_names():
            self.check_error(InvalidBlock, {"word": "name"}, Signal, value, formula)
            if value is not None:
                self.check_error(InvalidBlock, {"word": "fence"}, Signal, "s", formula, value)
        for value in no_names() + NAMES:
            if not isinstance(value, Formula):
                self.check_error(InvalidBlock, {"word": "formula"}, Signal, "s", value)

    def test_order_of_errors(self):
        self.check_error(InvalidBlock, {"word": "name"}, Signal, "go", "x", "go")
        self.check_error(InvalidBlock, {"word": "formula"}, Signal, "s", "x", "go")
        self.check_error(InvalidBlock, {"word": "fence"}, Signal, "s", Formula.of("x"), "none")

    def test_equal_if_texts_are(self):
        texts = ["x", "~ ~ x", "& x y", "& y x", "& x x", "| & x y & x ~ y"]
        given = list(itertools.product(["s", "t"], texts, [None, "f", "s"]))
        for first, second in itertools.product(given, given):
            p = Signal(first[0], Formula.read(first[1]), first[2])
            q = Signal(second[0], Formula.read(second[1]), second[2])
            self.assertIs(p == q, first == second)
            self.assertIs(p != q, first != second)
        self.check_alone(Signal("s", Formula.of("x")))
        joined = Formula.of("x") & ~Formula.of("y")
        self.assertEqual(Signal("s", joined), Signal("s", Formula.read("& x ~ y")))


class BlockTest(Checks, unittest.TestCase):
    def setUp(self):
        self.bits = [Bit("x", "b", True, True), Bit("y", "a"), Bit("z", "b", True, True, True)]
        self.signals = [Signal("s", Formula.read("& x y"), "g"), Signal("t", Formula.of("z")),
                        Signal("x", Formula.read("1"), "f"), Signal("u", Formula.of("y"), "g")]
        self.block = Block(self.bits, self.signals)

    def test_attributes(self):
        block = self.block
        self.assertEqual(block.bits, tuple(self.bits))
        self.assertEqual(block.signals, tuple(self.signals))
        self.assertEqual((block.areas, block.fences), (("a", "b"), ("f", "g")))
        self.assertEqual(len(block), 3)
        self.assertEqual(len(Block(self.bits[:1])), 1)
        self.assertEqual((Block(self.bits[:1]).signals, Block(self.bits[:1]).fences), ((), ()))
        for kind in (tuple, list):
            self.assertEqual(Block(kind(self.bits), kind(self.signals)), block)

    def test_wrong_bits(self):
        for value in no_names() + NAMES + [self.bits + [None], [self.signals[0]], [self.bits], ["bit x a"]]:
            self.check_error(InvalidBlock, {"word": "bits"}, Block, value)
            self.check_error(InvalidBlock, {"word": "bits"}, Block, value, 7)
        self.check_error(InvalidBlock, {"word": "bits"}, Block, [])
        self.check_error(InvalidBlock, {"word": "bits"}, Block, (), ())

    def test_wrong_signals(self):
        for value in no_names() + NAMES + [self.signals + [None], self.bits, [self.signals]]:
            if value != [] and value != ():
                self.check_error(InvalidBlock, {"word": "signals"}, Block, self.bits, value)
        self.check_error(InvalidBlock, {"word": "signals"}, Block, self.bits + self.bits, [1])

    def test_same_names(self):
        twice = Bit("x", "c")
        self.check_error(InvalidBlock, {"word": "name"}, Block, self.bits + [twice])
        self.check_error(InvalidBlock, {"word": "name"}, Block, self.bits + self.bits[:1])
        signal = Signal("s", Formula.of("w"))
        self.check_error(InvalidBlock, {"word": "name"}, Block, self.bits, self.signals + [signal])
        self.check_error(InvalidBlock, {"word": "name"}, Block, self.bits + [twice], [signal])
        self.assertEqual(len(Block([Bit("s", "s")], [Signal("s", Formula.of("s"), "s")])), 1)

    def test_formula_with_another_name(self):
        for text in ("w", "& x w", "& x & w ~ w", "a", "s", "f"):
            signal = Signal("w", Formula.read(text))
            self.check_error(InvalidBlock, {"word": "formula"}, Block, self.bits, self.signals + [signal])

    def test_bit_and_signal(self):
        for bit in self.bits:
            self.assertIs(type(self.block.bit(bit.name)), Bit)
            self.assertEqual(self.block.bit(bit.name), bit)
        for signal in self.signals:
            self.assertIs(type(self.block.signal(signal.name)), Signal)
            self.assertEqual(self.block.signal(signal.name), signal)

    def test_no_such_bit_or_signal(self):
        for value in no_names() + ["w", "a", "f", self.bits[0], self.signals[0], self.bits]:
            for ask in (self.block.bit, self.block.signal):
                with self.assertRaises(NoName) as caught:
                    ask(value)
                self.assertIs(caught.exception.name, value)
        self.check_error(NoName, {"name": "s"}, self.block.bit, "s")
        self.check_error(NoName, {"name": "y"}, self.block.signal, "y")

    def test_keeping(self):
        for names, keepers in (([], ""), (["x"], "x"), (("z",), "z"), (["z", "x", "z"], "xz"), (["y", "x"], "x")):
            block = self.block.keeping(names)
            self.assertIs(type(block), Block)
            self.assertEqual("".join([bit.name for bit in block.bits if bit.keeper]), keepers)
            self.assertEqual([bit.kept for bit in block.bits], [True, False, True])
            self.assertEqual([bit.start for bit in block.bits], [False, False, True])
            self.assertEqual([(bit.name, bit.area) for bit in block.bits], [("x", "b"), ("y", "a"), ("z", "b")])
            self.assertEqual(block.signals, self.block.signals)
        self.assertEqual(str(self.block.keeping(["x", "z"])), str(self.block))
        self.assertTrue(self.block.bit("x").keeper)

    def test_fencing(self):
        for names, fenced in (([], ""), (["s"], "s"), (("x", "u"), "xu"), (["t", "s", "s"], "s"), (["u", "s"], "su")):
            block = self.block.fencing(names)
            self.assertIs(type(block), Block)
            self.assertEqual("".join([signal.name for signal in block.signals if signal.fence is not None]), fenced)
            for signal in block.signals:
                old = self.block.signal(signal.name)
                self.assertEqual(signal.formula, old.formula)
                self.assertIn(signal.fence, (None, old.fence))
            self.assertEqual(block.bits, self.block.bits)
        self.assertEqual(self.block.fencing(["x"]).fences, ("f",))
        self.assertEqual(self.block.fencing([]).fences, ())

    def test_keeping_and_fencing_other_names(self):
        self.check_error(NoName, {"name": "s"}, self.block.keeping, ["x", "s", "w"])
        self.check_error(NoName, {"name": "w"}, self.block.keeping, ("w", "s"))
        self.check_error(NoName, {"name": "y"}, self.block.fencing, ["s", "y", "w"])
        self.check_error(NoName, {"name": "g"}, self.block.fencing, ["g"])
        for value in no_strings():
            for change, name in ((self.block.keeping, "x"), (self.block.fencing, "s")):
                with self.assertRaises(NoName) as caught:
                    change([name, value, "w"])
                self.assertIs(caught.exception.name, value)

    def test_plus(self):
        other = Block([Bit("v", "c"), Bit("w", "a")], [Signal("v", Formula.of("w"), "h")])
        both = self.block + other
        self.assertIs(type(both), Block)
        self.assertEqual(str(both), "\n".join([str(part) for part in [
            *self.bits, *other.bits, *self.signals, *other.signals]]))
        self.assertEqual((both.areas, both.fences, len(both)), (("a", "b", "c"), ("f", "g", "h"), 5))
        self.assertNotEqual(both, other + self.block)

    def test_plus_wrong(self):
        self.check_error(InvalidBlock, {"word": "name"}, operator.add, self.block, self.block)
        self.check_error(InvalidBlock, {"word": "name"}, operator.add, self.block, Block([Bit("y", "c")]))
        other = Block([Bit("w", "a")], [Signal("t", Formula.of("w"))])
        self.check_error(InvalidBlock, {"word": "name"}, operator.add, self.block, other)
        self.check_operands(self.block, [operator.add])

    def test_equal_if_texts_are(self):
        blocks = [self.block, Block(self.bits), Block(self.bits[::-1]), Block(self.bits[:2]), Block([Bit("x", "b")]),
                  Block(self.bits, self.signals[::-1]), self.block.keeping([]), self.block.fencing(["s", "t", "x"])]
        for (m, p), (n, q) in itertools.product(enumerate(blocks), enumerate(blocks)):
            self.assertIs(p == q, m == n)
            self.assertIs(p != q, m != n)
            self.assertTrue(p == Block.read(str(p)))
        self.check_alone(self.block)


class TextTest(Checks, unittest.TestCase):
    def test_str(self):
        block = Block([Bit("y", "b"), Bit("x", "a", True)], [Signal("t", Formula.of("x")), Signal("s", ~Formula.of("y"), "f")])
        self.assertEqual(str(block), "bit y b\nbit x a kept\nsignal t none x\nsignal s f ~ y")
        self.assertEqual(str(Block([Bit("y", "b")])), "bit y b")

    def test_read(self):
        for text in BITS + [BLOCK, "bit x a\nsignal s none 1"]:
            block = Block.read(text)
            self.assertIs(type(block), Block)
            self.assertEqual(str(block), text)
        for text in SIGNALS:
            full = "bit x a\nbit y a\nbit s a\n" + text
            self.assertEqual(str(Block.read(full)), full)
        block = Block.read(BLOCK)
        self.assertEqual((len(block), len(block.signals), block.areas, block.fences), (3, 4, ("a", "b"), ("f", "g")))
        self.assertEqual(block.bit("x"), Bit("x", "b", True, True))
        self.assertEqual(block.signal("t"), Signal("t", Formula.of("z")))

    def test_wrong_line(self):
        lines = ["", " ", "bit", "bit x", "bit x ", "bit x a ", " bit x a", "bit  x a", "bit x  a", "bit x a keeper",
                 "bit x a keeper kept", "bit x a start kept", "bit x a start keeper", "bit x a kept kept",
                 "bit x a kept start keeper", "bit x a kept  keeper", "bit x a true", "bit x a kept keeper start start",
                 "bit X a", "bit x abcde", "bits x a", "Bit x a", "bit x a none", "x a", "bit x a\t",
                 "signal", "signal s", "signal s f", "signal s f ", "signal s f  x", "signal s  f x", "signal S f x",
                 "signal s f x ", "signal s f x y", "signal s f & x", "signal s any x", "signal s f X",
                 "signal s ask x", "signal none f x", " signal s f x", "signal s x", "Signal s f x", "signals s f x",
                 "fence f", "first run", "signal s 1 x", "signal s None x", "signal s f 2"]
        for word in RESERVED:
            lines = lines + ["bit " + word + " a", "bit x " + word, "signal " + word + " f x", "signal s f " + word]
            if word != "none":
                lines.append("signal s " + word + " x")
        for line in lines:
            self.check_error(InvalidText, {"at": 0}, Block.read, line)
            self.check_error(InvalidText, {"at": 1}, Block.read, "bit x a\n" + line)
            self.check_error(InvalidText, {"at": 2}, Block.read, "bit x a\nsignal s f x\n" + line + "\nbit y")
            self.check_error(InvalidText, {"at": 3}, Block.read, "bit x a\nbit x a\nsignal s f w\n" + line)

    def test_bit_behind_a_signal(self):
        self.check_error(InvalidText, {"at": 1}, Block.read, "signal s f x\nbit x a")
        self.check_error(InvalidText, {"at": 2}, Block.read, "bit x a\nsignal s f x\nbit y a\nrubbish")
        self.check_error(InvalidText, {"at": 1}, Block.read, "bit x a\n")
        self.check_error(InvalidText, {"at": 0}, Block.read, "\nbit x a")

    def test_errors_of_the_constructor(self):
        self.check_error(InvalidBlock, {"word": "bits"}, Block.read, "signal s f x")
        self.check_error(InvalidBlock, {"word": "bits"}, Block.read, "signal s f x\nsignal s f x")
        self.check_error(InvalidBlock, {"word": "name"}, Block.read, "bit x a\nbit x b")
        self.check_error(InvalidBlock, {"word": "name"}, Block.read, "bit x a\nsignal s f x\nsignal s f w")
        self.check_error(InvalidBlock, {"word": "formula"}, Block.read, "bit x a\nsignal s f & x y")

    def test_objects_are_no_block(self):
        for value in objects():
            self.check_error(InvalidBlock, {"word": "bits"}, Block, value)


if __name__ == "__main__":
    unittest.main()
