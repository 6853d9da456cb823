"""Promises 29 and 30: which fences, keepers and rules are needed."""

import random
import unittest

from wakesafe.blocks import Block
from wakesafe.deciding import goals
from wakesafe.errors import Mismatch
from wakesafe.machines import Machine
from wakesafe.needs import needed_fences, needed_keepers, needless_rules
from tests.chance import any_block, any_machine, tame_machine
from tests.helper import BLOCK, Checks, GOOD, HASTY, a_machine
from tests.oracle import fewest_apart, fewest_names

FAULTS = ["dip", "spill"]
DEAD = Machine.read("first run")
# A sleep that cuts both areas, and a waking.
BOTH = a_machine("run idle any -> off: hold, fence f, fence g, save a, save b, cut a, cut b",
                 "off tick any -> run: power a, power b, load a, load b, open f, open g, go")
# The same without fences, for both areas and for one.
BOTH_PLAIN = a_machine("run idle any -> off: hold, save a, save b, cut a, cut b",
                       "off tick any -> run: power a, power b, load a, load b, go")
ONE_PLAIN = a_machine("run idle any -> off: hold, save a, cut a", "off tick any -> run: power a, load a, go")
# For each goal a bit without a keeper and a rule that meets the goal alone.
SPOILT = {
    "blind": ("bit y b", "run idle any -> run: cut b"),
    "leak": ("bit y b\nsignal s none y", "run idle any -> run: hold, cut b"),
    "lost": ("bit y b kept start", "run idle any -> run: hold, reset b, go"),
    "wrong": ("bit y b kept start\nsignal s none y", "run idle any -> run: hold, reset b"),
}


def three_signals(*fences):
    """A block with a bit in each area and with these fences for the signals on the first, on the second and on both."""
    lines = ["bit x a kept keeper", "bit y b kept keeper"]
    for name, fence, formula in zip("stu", fences, ("x", "y", "^ x y")):
        lines.append(f"signal {name} {fence} {formula}")
    return Block.read("\n".join(lines))


class FencesTest(Checks, unittest.TestCase):
    def test_signals_that_need_their_fences(self):
        self.assertEqual(needed_fences(BLOCK, GOOD, FAULTS), ("s",))
        self.assertEqual(needed_fences(three_signals("f", "f", "g"), BOTH, FAULTS), ("s", "t", "u"))
        half = a_machine("run idle any -> off: hold, fence f, fence g, save a, cut a",
                         "off tick any -> run: power a, load a, open f, open g, go")
        self.assertEqual(needed_fences(three_signals("f", "f", "g"), half, FAULTS), ("s", "u"))
        self.assertEqual(needed_fences(three_signals("g", "none", "f"), half, FAULTS), ("s", "u"))

    def test_the_names_ascend(self):
        block = Block.read("bit x a kept keeper\nsignal z f x\nsignal b g x\nsignal k f ~ x")
        machine = a_machine("run idle any -> off: hold, fence f, fence g, save a, cut a",
                            "off tick any -> run: power a, load a, open f, open g, go")
        self.assertEqual(needed_fences(block, machine, FAULTS), ("b", "k", "z"))

    def test_none_is_needed(self):
        self.assertEqual(needed_fences(BLOCK, DEAD, FAULTS), ())
        self.assertEqual(needed_fences(BLOCK, a_machine("run idle any -> off: hold, fence f"), FAULTS), ())
        self.assertEqual(needed_fences(Block.read("bit x a"), a_machine("run idle any -> off: cut a")), ())
        self.assertEqual(needed_fences(Block.read("bit x a\nsignal s none 1\nsignal t f ^ x x"), DEAD), ())
        nothing = Block.read("bit x a\nbit y b\nsignal s f & x | y ~ y")
        self.assertEqual(needed_fences(nothing, a_machine("run idle any -> off: cut b"), FAULTS), ())
        self.assertEqual(needed_fences(nothing, a_machine("run idle any -> off: fence f, cut a"), FAULTS), ("s",))

    def test_no_choice_is_enough(self):
        # A dip is seen though there is a fence.
        self.assertIs(needed_fences(BLOCK, GOOD), None)
        self.assertIs(needed_fences(BLOCK, DEAD), None)
        self.assertEqual(needed_fences(BLOCK, DEAD, ["dip"]), ())
        self.assertIs(needed_fences(BLOCK, HASTY, FAULTS), None)
        self.assertIs(needed_fences(three_signals("f", "none", "g"), BOTH, FAULTS), None)
        late = a_machine("run idle any -> off: hold, cut a, fence f")
        self.assertIs(needed_fences(three_signals("f", "f", "f"), late, FAULTS), None)

    def test_a_wrong_value_alone(self):
        block = Block.read("bit x a kept start\nbit y a start\nsignal s f x\nsignal t f y")
        machine = a_machine("run idle any -> off: hold, fence f, reset a")
        self.assertEqual(needed_fences(block, machine, FAULTS), ("s",))

    def test_fences_of_the_machine_that_no_signal_has_any_more(self):
        block = Block.read("bit x a\nsignal s f 1\nsignal t g x")
        machine = a_machine("run idle any -> off: fence f, fence g, cut a")
        self.assertEqual(needed_fences(block, machine, FAULTS), ("t",))
        self.check_error(Mismatch, {}, needed_fences, block.fencing(["t"]), machine, FAULTS)

    def test_by_chance(self):
        chance = random.Random(29)
        seen = {}
        for number in range(300):
            block = any_block(chance, 3, "ab", 3, "fg")
            machine = [tame_machine, any_machine][number % 3 // 2](chance, block)
            without = chance.choice([(), ["dip", "spill"], ("dip", "spill"), ["dip", "tick"]])
            names = [signal.name for signal in block.signals if signal.fence is not None]
            found = fewest_names(names, block.fencing, machine, ("leak", "wrong"), without)
            self.assertLessEqual(len(found), 1)
            wanted = found[0] if found else None
            self.assertEqual(needed_fences(block, machine, without), wanted)
            seen[wanted if wanted is None else len(wanted)] = True
        self.assertEqual(sorted(seen, key=str), [0, 1, 2, None])


class KeepersTest(Checks, unittest.TestCase):
    def test_bits_that_need_their_keepers(self):
        self.assertEqual(needed_keepers(BLOCK, GOOD, FAULTS), ("x",))
        block = Block.read("bit z a kept keeper\nbit k b kept keeper\nbit c a kept keeper")
        self.assertEqual(needed_keepers(block, BOTH_PLAIN, FAULTS), ("c", "k", "z"))
        self.assertEqual(needed_keepers(block, ONE_PLAIN, FAULTS), ("c", "z"))

    def test_none_is_needed(self):
        self.assertEqual(needed_keepers(BLOCK, DEAD, FAULTS), ())
        self.assertEqual(needed_keepers(Block.read("bit x a\nbit y b kept"), DEAD, FAULTS), ())
        asleep = a_machine("run idle any -> off: hold, fence f, cut a")
        self.assertEqual(needed_keepers(BLOCK, asleep, FAULTS), ())
        again = a_machine("run idle any -> run: hold, cut a, power a, reset a, go")
        self.assertEqual(needed_keepers(Block.read("bit x a start"), again, FAULTS), ())
        # Asks that are lost are no matter of keepers.
        self.assertEqual(needed_keepers(BLOCK, a_machine("run ask any -> run: hold, answer"), FAULTS), ())

    def test_no_choice_is_enough(self):
        for goal, (lines, rule) in SPOILT.items():
            block, machine = Block.read("bit x a kept keeper\n" + lines), a_machine(rule)
            self.assertEqual(goals(block, machine, [*FAULTS, "ask"]), (goal,))
            self.assertIs(needed_keepers(block, machine, [*FAULTS, "ask"]), None)
            self.assertEqual(needed_keepers(block, machine, [*FAULTS, "idle"]), ())
        self.assertIs(needed_keepers(BLOCK, GOOD), None)
        self.assertIs(needed_keepers(BLOCK, HASTY, FAULTS), None)
        self.assertIs(needed_keepers(Block.read("bit x a kept"), ONE_PLAIN, FAULTS), None)
        self.assertIs(needed_keepers(Block.read("bit x a kept keeper\nbit y a"), ONE_PLAIN, FAULTS), None)

    def test_each_bit_with_its_signals(self):
        # What is seen of a bit behind the fence counts for this bit, not for the others.
        machine = a_machine("run idle any -> off: hold, save a, save b", "off tick any -> off: load a, load b")
        block = Block.read("bit x a kept keeper\nbit y b kept keeper\nsignal s none x")
        self.assertEqual(needed_keepers(block, machine, FAULTS), ())
        machine = a_machine("run idle any -> off: hold, save a, save b, reset a, reset b, load a, load b")
        self.assertEqual(needed_keepers(block, machine, FAULTS), ())
        start = Block.read("bit x a kept keeper start\nbit y b kept keeper start\nsignal s f x\nsignal t f y")
        machine = a_machine("run idle any -> off: hold, fence f, save a, save b, reset a, load a, load b, open f")
        self.assertEqual(needed_keepers(start, machine, FAULTS), ("x",))

    def test_a_keeper_that_does_harm(self):
        # Loading what was never saved makes the bit unknown: without a keeper it stays right.
        machine = a_machine("run idle any -> run: load a")
        block = Block.read("bit x a kept keeper\nsignal s none x")
        self.assertEqual(goals(block, machine, FAULTS), ("blind", "leak", "lost", "swallowed"))
        self.assertEqual(needed_keepers(block, machine, FAULTS), ())
        both = Block.read("bit x a kept keeper\nbit y b kept keeper\nsignal s f x")
        mixed = a_machine("run idle any -> off: load a, hold, save b, cut b", "off tick any -> run: power b, load b, go")
        self.assertEqual(needed_keepers(both, mixed, FAULTS), ("y",))

    def test_mismatch(self):
        for line in ("run idle any -> off: cut c", "run dip c any -> off", "run idle any -> off: fence x"):
            for call in (needed_fences, needed_keepers, needless_rules):
                self.check_error(Mismatch, {}, call, BLOCK, a_machine(line))
                self.check_error(Mismatch, {}, call, BLOCK, a_machine(line), FAULTS)

    def test_by_chance(self):
        chance = random.Random(30)
        seen = {}
        for number in range(300):
            block = any_block(chance, 3, "ab", 2, "fg")
            machine = [tame_machine, any_machine][number % 3 // 2](chance, block)
            without = chance.choice([(), ["dip", "spill"], ("dip", "spill"), ["dip", "tick"]])
            names = [bit.name for bit in block.bits if bit.keeper]
            found = fewest_names(names, block.keeping, machine, ("blind", "leak", "lost", "wrong"), without)
            self.assertLessEqual(len(found), 1)
            wanted = found[0] if found else None
            self.assertEqual(needed_keepers(block, machine, without), wanted)
            seen[wanted if wanted is None else len(wanted)] = True
        self.assertEqual(sorted(seen, key=str), [0, 1, 2, 3, None])


def needless(block, machine, without):
    """The same, by trying each rule."""
    return tuple(at for at in range(len(machine)) if fewest_apart(block, machine, machine.without(at), without) is None)


class RulesTest(Checks, unittest.TestCase):
    def test_rules_that_are_needed(self):
        self.assertEqual(needless_rules(BLOCK, DEAD, FAULTS), ())
        # In wake some ask waits already.
        self.assertEqual(needless_rules(BLOCK, GOOD, FAULTS), (3,))
        self.assertEqual(needless_rules(BLOCK, GOOD.without(3), FAULTS), ())
        self.assertEqual(needless_rules(BLOCK, GOOD, ["dip", "spill", "tick"]), (2, 3, 4))
        self.assertEqual(needless_rules(BLOCK, GOOD, ["idle"]), (1, 2, 3, 4))
        self.assertEqual(needless_rules(BLOCK, GOOD, ["ask", "idle"]), (0, 1, 2, 3, 4))

    def test_each_alone(self):
        # Of two equal rules either may be left out, but not both.
        twice = a_machine("run ask any -> run: answer", "run ask any -> run: answer")
        self.assertEqual(needless_rules(BLOCK, twice), (0, 1))
        parts = a_machine("run ask calm -> run: answer", "run ask waits -> run: answer", "run ask any -> run: answer")
        self.assertEqual(needless_rules(BLOCK, parts), (0, 1, 2))
        self.assertEqual(needless_rules(BLOCK, parts.without(0)), (0,))

    def test_rules_behind_others(self):
        hidden = a_machine("run ask any -> run: answer", "run ask waits -> off: hold", "nap tick any -> run: go")
        self.assertEqual(needless_rules(BLOCK, hidden), (1, 2))
        # Without the first rule the second one is done.
        other = a_machine("run idle any -> run", "run idle any -> run: fence f")
        self.assertEqual(needless_rules(BLOCK, other), (1,))
        self.assertEqual(needless_rules(BLOCK, a_machine("run idle any -> run", "run tick any -> off")), (0, 1))

    def test_what_the_rule_alone_names(self):
        # Without its rules a machine may name fewer areas and fences than the block has.
        machine = a_machine("run dip b any -> off: cut a, open f", "off tick any -> off: fence f")
        self.assertEqual(needless_rules(BLOCK, machine), ())
        self.assertEqual(needless_rules(BLOCK, machine, ["dip b"]), (0, 1))
        self.assertEqual(needless_rules(BLOCK, machine, ["tick"]), (0, 1))

    def test_by_chance(self):
        chance = random.Random(33)
        for number in range(150):
            block = any_block(chance, 3, "ab", 2, "fg")
            machine = [tame_machine, any_machine][number % 2](chance, block)
            without = chance.choice([(), ["dip", "spill"], ("dip", "spill"), ["dip", "tick"]])
            self.assertEqual(needless_rules(block, machine, without), needless(block, machine, without))


if __name__ == "__main__":
    unittest.main()
