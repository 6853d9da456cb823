"""Promise 3: the limits."""

import random
import unittest

from wakesafe.blocks import Bit, Block, Signal
from wakesafe.errors import InvalidText
from wakesafe.formulas import Formula
from wakesafe.machines import Machine, Rule
from tests.helper import Checks, LETTERS


class FormulasTest(Checks, unittest.TestCase):
    def test_twenty_signs_and_names(self):
        text = "^ & | a b ~ c | ^ d e & a ^ b & 1 | c a"
        self.assertEqual(len(text.split(" ")), 20)
        formula = Formula.read(text)
        self.assertEqual((str(formula), formula.names), (text, ("a", "b", "c", "d", "e")))
        self.assertEqual(formula.needs, ("a", "b", "c", "d", "e"))

    def test_eight_deep(self):
        for sign in ("~ ", "& x ", "| x ", "^ x "):
            text = sign * 8 + "y"
            self.assertEqual(str(Formula.read(text)), text)
        self.assertEqual(Formula.read("~ " * 8 + "y"), Formula.of("y"))
        self.assertEqual(Formula.read("^ x " * 7 + "y").needs, ("x", "y"))
        self.assertEqual(Formula.read("^ x " * 8 + "y").needs, ("y",))

    def test_text_of_two_thousand_characters(self):
        text = "~ " * 999 + "xy"
        self.assertEqual(len(text), 2000)
        self.assertEqual(str(Formula.read(text)), text)
        self.assertIs(Formula.read(text).value({"xy": True}), False)
        left = "& " * 498 + "x y" + " x" * 497
        self.assertEqual(str(Formula.read(left)), left)
        self.assertEqual(Formula.read(left).needs, ("x", "y"))
        self.check_error(InvalidText, {"at": 1000}, Formula.read, "~ " * 999 + "~")
        self.check_error(InvalidText, {"at": 999}, Formula.read, "~ " * 999 + "Xy")

    def test_all_printable_characters(self):
        for code in range(32, 127):
            if chr(code) not in LETTERS + "01":
                self.check_error(InvalidText, {"at": 1}, Formula.read, "~ x" + chr(code) if code != 32 else "~  x")
                self.check_error(InvalidText, {"at": 1 if chr(code) in "&|^~" else 0}, Formula.read, chr(code))

    def test_a_hundred_deep_with_twenty_names(self):
        formula = Formula.of("a")
        for at in range(99):
            other = Formula.of(LETTERS[at % 20])
            formula = [formula & other, formula ^ other, formula | other, other ^ formula][at % 4]
        self.assertEqual(formula.names, tuple(LETTERS[:20]))
        self.assertEqual(str(Formula.read(str(formula))), str(formula))
        self.assertEqual(Formula.read(str(formula)).needs, formula.needs)
        self.assertFalse(formula <= ~formula)
        other = formula.put({name: Formula.of(name * 2) for name in LETTERS[:20]})
        self.assertFalse(formula == other or formula <= other or other <= formula)
        self.assertEqual(len((formula & other).names), 40)

    def parity(self, many):
        formula = Formula.always(False)
        for letter in LETTERS[:many]:
            formula = formula ^ Formula.of(letter)
        return formula

    def test_parity_of_twenty_names(self):
        formula = self.parity(20)
        self.assertEqual(formula.needs, tuple(LETTERS[:20]))
        self.assertIs(formula.under({letter: True for letter in LETTERS[1:]}), None)
        self.assertIs(formula.under({}), None)
        self.assertIs(formula.value({letter: letter == "t" for letter in LETTERS}), True)
        self.assertFalse(formula == ~formula)
        self.assertTrue(formula == formula)

    def test_names_that_are_not_needed(self):
        formula = self.parity(13)
        lost = formula ^ formula.put({"m": Formula.always(True)})
        self.assertEqual((lost.names, lost.needs), (tuple(LETTERS[:13]), ("m",)))
        self.assertTrue(lost == ~Formula.of("m") and lost <= ~Formula.of("m") and lost >= ~Formula.of("m"))
        nothing = formula & ~formula
        self.assertEqual((nothing.names, nothing.needs, nothing.under({})), (tuple(LETTERS[:13]), (), False))
        self.assertTrue(nothing == Formula.always(False) and ~nothing >= formula)
        self.assertIs((formula | ~formula).under({"a": True}), True)
        for name in LETTERS[:13]:
            alone = formula ^ formula.put({name: Formula.always(True)})
            self.assertEqual(alone.needs, (name,))

    def test_order_with_many_names_of_one_side(self):
        shared = Formula.read("| a ^ b c")
        for seed in range(60):
            chance = random.Random(seed)
            alone = chance.sample(LETTERS[3:], 11)
            one_row = shared
            for name in alone:
                one_row = one_row & (Formula.of(name) if chance.random() < 0.5 else ~Formula.of(name))
            self.assertTrue(one_row <= shared and shared >= one_row)
            self.assertFalse(shared <= one_row or one_row >= shared or one_row == shared)
            for other in (Formula.of("a"), Formula.read("^ b c"), ~shared, Formula.always(False)):
                self.assertFalse(one_row <= other or ~other <= ~one_row)
            self.assertEqual(one_row.needs, tuple(sorted(alone + ["a", "b", "c"])))

    def test_formulas_put_into_formulas(self):
        inner = Formula.read("^ & a b | c ~ & d e")
        given = {name: inner.put({old: Formula.of(old + name) for old in "abcd"}) for name in "abcde"}
        formula = inner.put(given)
        self.assertEqual(len(formula.names), 21)
        self.assertEqual(formula.needs, formula.names)
        self.assertEqual(str(formula).split(" ").count("ab"), 1)
        self.assertEqual(formula, Formula.read(str(formula)))

    def test_the_same_formula_many_times(self):
        formula = Formula.read("& x ~ y")
        for _ in range(12):
            formula = formula | formula
        self.assertEqual((formula.names, formula.needs), (("x", "y"), ("x", "y")))
        self.assertEqual(formula, Formula.read("& x ~ y"))
        self.assertEqual(len(str(formula).split(" ")), 4 * 4096 + 4095)


class BlocksTest(Checks, unittest.TestCase):
    def test_the_largest_block(self):
        bits = [Bit("b" + LETTERS[at], "abc"[at % 3], True, at % 2 == 0, at % 4 < 2) for at in range(8)]
        text = "& ba ^ bb | bc & bd be"
        signals = [Signal("s" + LETTERS[at], Formula.read(text), [None, "f", "g", "h", "i"][at % 5]) for at in range(6)]
        block = Block(bits, signals)
        self.assertEqual((len(block), block.areas, block.fences), (8, ("a", "b", "c"), ("f", "g", "h", "i")))
        self.assertEqual(Block.read(str(block)), block)
        self.assertEqual(len(block.signals), 6)

    def test_many_signals(self):
        parts = []
        for at in range(4):
            bits = [Bit(LETTERS[at] + letter, "a") for letter in "abcde"]
            signals = [Signal(bit.name, Formula.of(bit.name), "f") for bit in bits]
            parts.append(Block(bits, signals))
        block = parts[0] + parts[1] + parts[2] + parts[3]
        self.assertEqual((len(block), len(block.signals)), (20, 20))
        self.assertEqual(Block.read(str(block)), block)
        self.assertEqual(block.fencing([]).fences, ())

    def test_long_text(self):
        lines = ["bit " + first + second + "xy wxyz kept keeper start" for first in "abcdefgh" for second in "abcdefgh"]
        text = "\n".join(lines[:55])
        self.assertLessEqual(len(text), 2000)
        self.assertEqual(str(Block.read(text)), text)
        self.check_error(InvalidText, {"at": 55}, Block.read, text + "\nbit")


class MachinesTest(Checks, unittest.TestCase):
    def test_the_largest_machine(self):
        deeds = ["hold", "fence f", "fence g", "save a", "save b", "cut a", "cut b", "note", "answer", "forget"]
        rules = [Rule("abcdef"[at % 6], "ask", ["any", "waits", "calm"][at % 3], "abcdef"[at // 4], deeds)
                 for at in range(20)]
        machine = Machine("f", rules)
        self.assertEqual((len(machine), len(machine.states), machine[19].deeds), (20, 6, tuple(deeds)))
        self.assertEqual(Machine.read(str(machine)), machine)
        self.assertEqual(machine.rule_for("f", "ask", False), 5)
        double = machine + machine
        self.assertEqual((len(double), double[39]), (40, machine[19]))
        self.assertEqual(double.without(20).rules, machine.rules + machine.rules[1:])

    def test_long_text(self):
        text = "first run" + "\nrun dip abcd waits -> off: power abcd, reset abcd" * 38
        self.assertLessEqual(len(text), 2000)
        self.assertEqual(str(Machine.read(text)), text)
        self.check_error(InvalidText, {"at": 39}, Machine.read, text + "\nrun")


if __name__ == "__main__":
    unittest.main()
