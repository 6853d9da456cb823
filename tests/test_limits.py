"""Promise 3: the limits."""

import itertools
import random
import unittest
from math import factorial

from wakesafe.blocks import Bit, Block, Signal
from wakesafe.deciding import comes, culprits, goals, happens, least
from wakesafe.errors import InvalidText
from wakesafe.formulas import Formula
from wakesafe.machines import Machine, Rule
from wakesafe.orders import Order, sleep_order, sleep_safe, wake_order, wake_safe
from wakesafe.papers import paper, paper_holds
from wakesafe.runs import play
from tests.chance import any_deed
from tests.helper import Checks, GOALS, LETTERS
from tests.oracle import World, events_of


class FormulasTest(Checks, unittest.TestCase):
    def test_twenty_signs_and_names(self):
        text = "^ & | a b ~ c | ^ d e & a ^ b & 1 | c a"
        self.assertEqual(len(text.split(" ")), 20)
        formula = Formula.read(text)
        self.assertEqual((str(formula), formula.names), (text, ("a", "b", "c", "d", "e")))
        self.assertEqual(formula.needs, ("a", "b", "c", "d", "e"))

    def test_eight_deep(self):
        for sign in ("~ ", "& x ", "| x ", "^ x "):
            text = sign * 8 + "y"
            self.assertEqual(str(Formula.read(text)), text)
        self.assertEqual(Formula.read("~ " * 8 + "y"), Formula.of("y"))
        self.assertEqual(Formula.read("^ x " * 7 + "y").needs, ("x", "y"))
        self.assertEqual(Formula.read("^ x " * 8 + "y").needs, ("y",))

    def test_text_of_two_thousand_characters(self):
        text = "~ " * 999 + "xy"
        self.assertEqual(len(text), 2000)
        self.assertEqual(str(Formula.read(text)), text)
        self.assertIs(Formula.read(text).value({"xy": True}), False)
        left = "& " * 498 + "x y" + " x" * 497
        self.assertEqual(str(Formula.read(left)), left)
        self.assertEqual(Formula.read(left).needs, ("x", "y"))
        self.check_error(InvalidText, {"at": 1000}, Formula.read, "~ " * 999 + "~")
        self.check_error(InvalidText, {"at": 999}, Formula.read, "~ " * 999 + "Xy")

    def test_all_printable_characters(self):
        for code in range(32, 127):
            if chr(code) not in LETTERS + "01":
                self.check_error(InvalidText, {"at": 1}, Formula.read, "~ x" + chr(code) if code != 32 else "~  x")
                self.check_error(InvalidText, {"at": 1 if chr(code) in "&|^~" else 0}, Formula.read, chr(code))

    def test_a_hundred_deep_with_twenty_names(self):
        formula = Formula.of("a")
        for at in range(99):
            other = Formula.of(LETTERS[at % 20])
            formula = [formula & other, formula ^ other, formula | other, other ^ formula][at % 4]
        self.assertEqual(formula.names, tuple(LETTERS[:20]))
        self.assertEqual(str(Formula.read(str(formula))), str(formula))
        self.assertEqual(Formula.read(str(formula)).needs, formula.needs)
        self.assertFalse(formula <= ~formula)
        other = formula.put({name: Formula.of(name * 2) for name in LETTERS[:20]})
        self.assertFalse(formula == other or formula <= other or other <= formula)
        self.assertEqual(len((formula & other).names), 40)

    def parity(self, many):
        formula = Formula.always(False)
        for letter in LETTERS[:many]:
            formula = formula ^ Formula.of(letter)
        return formula

    def test_parity_of_twenty_names(self):
        formula = self.parity(20)
        self.assertEqual(formula.needs, tuple(LETTERS[:20]))
        self.assertIs(formula.under({letter: True for letter in LETTERS[1:]}), None)
        self.assertIs(formula.under({}), None)
        self.assertIs(formula.value({letter: letter == "t" for letter in LETTERS}), True)
        self.assertFalse(formula == ~formula)
        self.assertTrue(formula == formula)

    def test_names_that_are_not_needed(self):
        formula = self.parity(13)
        lost = formula ^ formula.put({"m": Formula.always(True)})
        self.assertEqual((lost.names, lost.needs), (tuple(LETTERS[:13]), ("m",)))
        self.assertTrue(lost == ~Formula.of("m") and lost <= ~Formula.of("m") and lost >= ~Formula.of("m"))
        nothing = formula & ~formula
        self.assertEqual((nothing.names, nothing.needs, nothing.under({})), (tuple(LETTERS[:13]), (), False))
        self.assertTrue(nothing == Formula.always(False) and ~nothing >= formula)
        self.assertIs((formula | ~formula).under({"a": True}), True)
        for name in LETTERS[:13]:
            alone = formula ^ formula.put({name: Formula.always(True)})
            self.assertEqual(alone.needs, (name,))

    def test_order_with_many_names_of_one_side(self):
        shared = Formula.read("| a ^ b c")
        for seed in range(60):
            chance = random.Random(seed)
            alone = chance.sample(LETTERS[3:], 11)
            one_row = shared
            for name in alone:
                one_row = one_row & (Formula.of(name) if chance.random() < 0.5 else ~Formula.of(name))
            self.assertTrue(one_row <= shared and shared >= one_row)
            self.assertFalse(shared <= one_row or one_row >= shared or one_row == shared)
            for other in (Formula.of("a"), Formula.read("^ b c"), ~shared, Formula.always(False)):
                self.assertFalse(one_row <= other or ~other <= ~one_row)
            self.assertEqual(one_row.needs, tuple(sorted(alone + ["a", "b", "c"])))

    def test_formulas_put_into_formulas(self):
        inner = Formula.read("^ & a b | c ~ & d e")
        given = {name: inner.put({old: Formula.of(old + name) for old in "abcd"}) for name in "abcde"}
        formula = inner.put(given)
        self.assertEqual(len(formula.names), 21)
        self.assertEqual(formula.needs, formula.names)
        self.assertEqual(str(formula).split(" ").count("ab"), 1)
        self.assertEqual(formula, Formula.read(str(formula)))

    def test_the_same_formula_many_times(self):
        formula = Formula.read("& x ~ y")
        for _ in range(12):
            formula = formula | formula
        self.assertEqual((formula.names, formula.needs), (("x", "y"), ("x", "y")))
        self.assertEqual(formula, Formula.read("& x ~ y"))
        self.assertEqual(len(str(formula).split(" ")), 4 * 4096 + 4095)


class BlocksTest(Checks, unittest.TestCase):
    def test_the_largest_block(self):
        bits = [Bit("b" + LETTERS[at], "abc"[at % 3], True, at % 2 == 0, at % 4 < 2) for at in range(8)]
        text = "& ba ^ bb | bc & bd be"
        signals = [Signal("s" + LETTERS[at], Formula.read(text), [None, "f", "g", "h", "i"][at % 5]) for at in range(6)]
        block = Block(bits, signals)
        self.assertEqual((len(block), block.areas, block.fences), (8, ("a", "b", "c"), ("f", "g", "h", "i")))
        self.assertEqual(Block.read(str(block)), block)
        self.assertEqual(len(block.signals), 6)

    def test_many_signals(self):
        parts = []
        for at in range(4):
            bits = [Bit(LETTERS[at] + letter, "a") for letter in "abcde"]
            signals = [Signal(bit.name, Formula.of(bit.name), "f") for bit in bits]
            parts.append(Block(bits, signals))
        block = parts[0] + parts[1] + parts[2] + parts[3]
        self.assertEqual((len(block), len(block.signals)), (20, 20))
        self.assertEqual(Block.read(str(block)), block)
        self.assertEqual(block.fencing([]).fences, ())

    def test_long_text(self):
        lines = ["bit " + first + second + "xy wxyz kept keeper start" for first in "abcdefgh" for second in "abcdefgh"]
        text = "\n".join(lines[:55])
        self.assertLessEqual(len(text), 2000)
        self.assertEqual(str(Block.read(text)), text)
        self.check_error(InvalidText, {"at": 55}, Block.read, text + "\nbit")


class MachinesTest(Checks, unittest.TestCase):
    def test_the_largest_machine(self):
        deeds = ["hold", "fence f", "fence g", "save a", "save b", "cut a", "cut b", "note", "answer", "forget"]
        rules = [Rule("abcdef"[at % 6], "ask", ["any", "waits", "calm"][at % 3], "abcdef"[at // 4], deeds)
                 for at in range(20)]
        machine = Machine("f", rules)
        self.assertEqual((len(machine), len(machine.states), machine[19].deeds), (20, 6, tuple(deeds)))
        self.assertEqual(Machine.read(str(machine)), machine)
        self.assertEqual(machine.rule_for("f", "ask", False), 5)
        double = machine + machine
        self.assertEqual((len(double), double[39]), (40, machine[19]))
        self.assertEqual(double.without(20).rules, machine.rules + machine.rules[1:])

    def test_long_text(self):
        text = "first run" + "\nrun dip abcd waits -> off: power abcd, reset abcd" * 38
        self.assertLessEqual(len(text), 2000)
        self.assertEqual(str(Machine.read(text)), text)
        self.check_error(InvalidText, {"at": 39}, Machine.read, text + "\nrun")


def a_large_block(bits, signals, areas, fences):
    """A block whose signals have as many names as a formula may have."""
    made = [Bit("b" + LETTERS[at], areas[at % len(areas)], at % 7 != 6, at % 7 < 5, at % 2 == 0) for at in range(bits)]
    edge = []
    for at in range(signals):
        names = [made[(at * 3 + step) % bits].name for step in range(5)]
        formula = Formula.read("^ {} | {} & {} ^ {} {}".format(*names))
        edge.append(Signal("s" + LETTERS[at], formula, [None, *fences][at % (len(fences) + 1)]))
    return Block(made, edge)


def a_large_machine(block, rules, states, deeds):
    """A machine with rules that come from everywhere, each with as many deeds."""
    chance = random.Random(rules)
    names = ["q" + LETTERS[at] for at in range(states)]
    made = []
    for at in range(rules):
        event = events_of(block)[at % len(events_of(block))]
        done = [any_deed(chance, block, event) for _ in range(deeds)]
        made.append(Rule(names[at % states], event, ["any", "waits", "calm"][at % 3], names[chance.randrange(states)], done))
    return Machine(names[0], made)


class RunsTest(Checks, unittest.TestCase):
    def setUp(self):
        self.block = a_large_block(8, 6, "abc", "fghi")

    def test_sixty_events(self):
        for deeds in (1, 10):
            machine = a_large_machine(self.block, 20, 6, deeds)
            self.assertEqual((len(self.block), len(machine), len(machine.states)), (8, 20, 6))
            events = (events_of(self.block) * 7)[:60]
            world = World(self.block, machine)
            rules = tuple(world.take(event)[0] for event in events)
            played = play(self.block, machine, events)
            self.assertEqual((played.rules, played.goals), (rules, tuple(sorted(world.goals))))
            self.assertEqual((played.contents, played.view), (world.contents, world.view()))

    def test_deciding_and_papers(self):
        for deeds in (1, 2, 4, 10):
            machine = a_large_machine(self.block, 20, 6, deeds)
            for without in ((), ("dip",), ("dip", "spill", "ask")):
                found = goals(self.block, machine, without)
                for goal in GOALS:
                    self.check_goal(self.block, machine, goal, without, goal in found)
                for at in range(20):
                    self.assertIn(comes(self.block, machine, at, without), (True, False))

    def check_goal(self, block, machine, goal, without, happened):
        self.assertIs(happens(block, machine, goal, without), happened)
        told = paper(block, machine, goal, without)
        events = least(block, machine, goal, without)
        self.assertEqual((told is None, events is None), (happened, not happened))
        self.assertIs(len(culprits(block, machine, goal, without)) > 0, happened)
        if happened:
            self.assertIn(goal, play(block, machine, events).goals)
        else:
            self.assertIs(paper_holds(block, machine, goal, told, without), True)

    def test_what_was_returned_may_be_larger(self):
        block = self.block
        for at in (1, 2):
            names = {bit.name: Formula.of("cde"[at] + bit.name[1]) for bit in self.block.bits}
            bits = [Bit("cde"[at] + bit.name[1], bit.area * (at + 1), bit.kept, bit.keeper) for bit in self.block.bits]
            signals = [Signal("tuv"[at] + signal.name[1], signal.formula.put(names), "klmno"[at]) for signal in block.signals[:6]]
            block = block + Block(bits, signals)
        self.assertEqual((len(block), len(block.signals), len(block.areas)), (24, 18, 9))
        machine = a_large_machine(self.block, 20, 6, 4) + a_large_machine(block, 20, 6, 3)
        for goal in GOALS:
            self.check_goal(block, machine, goal, (), happens(block, machine, goal))

    def test_a_signal_with_twenty_names(self):
        block = Block([Bit("b" + letter, "a", True, True) for letter in LETTERS[:20]])
        formula = Formula.always(False)
        for bit in block.bits:
            formula = formula ^ Formula.of(bit.name)
        block = Block(block.bits, [Signal("s" + letter, formula, "f") for letter in LETTERS[:20]])
        self.assertEqual(len(culprits(block, Machine("run"), "leak")), 400)
        self.assertEqual(len(paper(block, Machine("run"), "wrong")), 400)
        self.assertEqual(play(block, Machine("run"), ["dip a"]).view, ("unknown",) * 20)

    def test_three_thousand_standings(self):
        machine = a_large_machine(self.block, 20, 6, 2)
        flags = [False, True]
        parts = [flags, ["right", "other", "unknown"], ["right", "other", "unknown"]]
        told = []
        for name in ("ba", "bb", "bc", "bd", "be", "bf", "bg", "bh"):
            bit = self.block.bit(name)
            keepers = parts[2] if bit.keeper else [""]
            standings = itertools.product(machine.states, flags, flags, flags, parts[1], keepers)
            told.append((name, tuple(standings)))
        self.assertGreater(sum(len(standings) for _, standings in told), 1000)
        everything = ["ask", "idle", "tick", "dip", "spill"]
        self.assertIs(paper_holds(self.block, machine, "blind", tuple(told), everything), True)
        double = tuple((name, standings * 2) for name, standings in told)
        self.assertIs(paper_holds(self.block, machine, "blind", double, everything), True)
        self.assertIs(paper_holds(self.block, machine, "blind", double), False)


class OrdersTest(unittest.TestCase):
    def test_ten_deeds(self):
        deeds = ["hold", "go", "note", "answer", "forget", "cut a", "cut b", "cut c", "save a", "save b"]
        self.assertEqual(Order(deeds).many, 3628800)
        self.assertEqual(Order(deeds, list(zip(deeds, deeds[1:]))).many, 1)
        self.assertEqual(Order(deeds, [(deeds[0], deed) for deed in deeds[1:]]).many, 362880)
        pairs = [(deeds[at], deeds[5 + other]) for at in range(5) for other in range(5) if at != other]
        crown = Order(deeds, pairs)
        self.assertEqual((len(crown.links), crown.many), (20, counted_from_the_front(deeds, pairs)))
        self.assertEqual((~crown).many, crown.many)

    def test_more_than_ten_deeds(self):
        deeds = [word + " " + letter for letter in "abcdef" for word in ("power", "load", "open")]
        self.assertEqual(Order(deeds).many, 6402373705728000)
        pairs = [(deeds[at], deeds[at + 1]) for at in range(0, 18, 3)]
        self.assertEqual(Order(deeds, pairs).many, 6402373705728000 // 64)
        self.assertEqual(Order(deeds, [(deed, "load f") for deed in deeds if deed != "load f"]).many, 355687428096000)

    def test_long_text(self):
        text = ", ".join(["go < hold"] * 170 + ["cut " + letter for letter in LETTERS])
        self.assertLessEqual(len(text), 2100)
        self.assertEqual(str(Order.read(text)), "go < hold, " + ", ".join("cut " + letter for letter in LETTERS))

    def test_sleep_and_wake_of_large_blocks(self):
        block = a_large_block(8, 6, "abc", "fghi")
        block = block.fencing(["sb", "sc", "sd", "se"])
        block = Block([Bit(bit.name, bit.area, bit.kept, bit.kept, True) for bit in block.bits],
                      [signal for signal in block.signals if signal.fence is not None])
        deeds = ["hold", *["fence " + fence for fence in "fghi"], *["save " + area for area in "abc"]]
        deeds += ["cut " + area for area in "abc"]
        order = sleep_order(block, deeds)
        self.assertEqual((len(order), sleep_safe(block, order.earliest)), (11, True))
        self.assertEqual(order.many, counted_from_the_front(order.deeds, order.pairs))
        deeds = ["go", *["open " + fence for fence in "fghi"]]
        deeds += [word + " " + area for area in "abc" for word in ("power", "reset", "load")]
        order = wake_order(block, deeds)
        self.assertEqual((len(order), wake_safe(block, order.earliest)), (14, True))
        self.assertEqual(order.many, counted_from_the_front(order.deeds, order.pairs))

    def test_twenty_fences(self):
        letters = LETTERS[:20]
        signals = [Signal("s" + letter, Formula.of("x"), letter * 2) for letter in letters]
        block = Block([Bit("x", "a", True, True)], signals)
        order = sleep_order(block, ["hold", "save a", "cut a", *["fence " + letter * 2 for letter in letters]])
        self.assertEqual((len(order), len(order.links)), (23, 22))
        # All but the cut go by themselves, with the hold ahead of the save.
        self.assertEqual(order.many, factorial(22) // 2)


def counted_from_the_front(deeds, pairs):
    """The number of sequences, counted from the front."""
    counted = {}

    def count(left):
        if not left:
            return 1
        if left not in counted:
            free = [deed for deed in left if not any((other, deed) in pairs for other in left)]
            counted[left] = sum(count(left - {deed}) for deed in free)
        return counted[left]

    return count(frozenset(deeds))


if __name__ == "__main__":
    unittest.main()
