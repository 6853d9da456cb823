"""Promise 31: whether two machines look alike, and what tells them apart."""

import random
import unittest

from wakesafe.alike import alike, parting
from wakesafe.blocks import Block
from wakesafe.errors import Mismatch
from wakesafe.machines import Machine
from wakesafe.runs import play
from tests.chance import any_block, any_machine, changed_machine, tame_machine
from tests.helper import BLOCK, Checks, GOOD, GOOD_TEXT, HASTY, a_machine
from tests.oracle import fewest_apart

DEAD = Machine.read("first run")
# Two bits of two areas, one of them kept, behind a fence of their own, and one signal on both.
TWO = Block.read("bit x a kept keeper start\nbit y b\nsignal s f x\nsignal t none & x y")


def shown(block, machine, events):
    """What the last of these events shows, as a run tells it."""
    played = play(block, machine, events)
    return played.answered[-1], played.view


class AlikeTest(Checks, unittest.TestCase):
    def check_apart(self, block, p, q, many, without=()):
        """The machines show something else behind just so many events, and the same behind fewer."""
        for one, other in ((p, q), (q, p)):
            events = parting(block, one, other, without)
            self.assertIs(type(events), tuple)
            self.assertEqual(len(events), many)
            self.assertNotEqual(shown(block, one, events), shown(block, other, events))
            for fewer in range(1, many):
                self.assertEqual(shown(block, one, events[:fewer]), shown(block, other, events[:fewer]))
            self.assertIs(alike(block, one, other, without), False)

    def check_alike(self, block, p, q, without=()):
        for one, other in ((p, q), (q, p)):
            self.assertIs(alike(block, one, other, without), True)
            self.assertIs(parting(block, one, other, without), None)

    def test_examples(self):
        self.assertIs(alike(BLOCK, GOOD, HASTY, ["dip", "spill"]), True)
        self.assertEqual(parting(BLOCK, GOOD, DEAD, ["dip", "spill"]), ("ask",))

    def test_a_machine_and_itself(self):
        for machine in (GOOD, HASTY, DEAD):
            self.check_alike(BLOCK, machine, machine)
            self.check_alike(BLOCK, machine, Machine.read(str(machine)))
            self.check_alike(BLOCK, machine, machine, ["ask", "dip b"])

    def test_names_of_states_are_not_seen(self):
        other = Machine.read(GOOD_TEXT.replace("wake", "up").replace("run", "wake").replace("up", "run"))
        self.assertEqual(other.first, "wake")
        self.check_alike(BLOCK, GOOD, other)

    def test_what_is_not_seen(self):
        # Behind the fence nothing tells whether the area is cut, and the goals do not count.
        p, q = a_machine("run idle any -> off: fence f, cut a"), a_machine("run idle any -> off: fence f, go")
        self.check_alike(BLOCK, p, q, ["dip"])
        self.check_alike(BLOCK, DEAD, a_machine("run idle any -> off: hold, save a, go"))
        self.check_apart(BLOCK, DEAD, a_machine("run idle any -> off: hold, save a, cut a, power a"), 1)

    def test_the_work_is_not_seen_until_a_bit_tells(self):
        # An other bit is wrong only as long as the work is held.
        p = a_machine("run idle any -> off: hold", "off tick any -> off: reset a")
        q = a_machine("run idle any -> off", "off tick any -> off: reset a")
        self.check_apart(TWO, p, q, 2)
        self.assertEqual(parting(TWO, p, q), ("idle", "tick"))
        self.check_alike(TWO, p, q, ["tick"])
        self.check_alike(TWO, p, q, ["idle"])

    def test_whether_an_ask_was_answered(self):
        answers, notes = a_machine("run ask any -> run: answer"), a_machine("run ask any -> run: note")
        self.check_apart(BLOCK, answers, notes, 1)
        self.assertEqual(parting(BLOCK, answers, notes), ("ask",))
        self.check_alike(BLOCK, notes, DEAD)
        twice = a_machine("run ask any -> run: note, answer, answer")
        self.check_alike(BLOCK, answers, twice)
        self.check_alike(BLOCK, a_machine("run ask any -> run: note, forget, answer"), DEAD)
        later = a_machine("run ask any -> run: note", "run tick any -> run: answer")
        none = a_machine("run ask any -> run: note, forget", "run tick any -> run: answer")
        self.check_apart(BLOCK, later, none, 2)
        self.assertEqual(parting(BLOCK, later, none), ("ask", "tick"))
        self.check_alike(BLOCK, later, none, ["ask"])

    def test_each_word_of_the_view(self):
        # Behind one tick x is right, other and unknown, and the fence is raised.
        ends = [a_machine("run tick any -> run: hold"), a_machine("run tick any -> run: hold, reset a"),
                a_machine("run tick any -> run: hold, load a"), a_machine("run tick any -> run: hold, fence f")]
        words = [play(TWO, machine, ["tick"]).view[0] for machine in ends]
        self.assertEqual(words, ["clean", "wrong", "unknown", "fenced"])
        for m, first in enumerate(ends):
            for second in ends[:m]:
                self.check_apart(TWO, first, second, 1)
                self.check_alike(TWO, first, second, ["tick"])

    def test_several_bits_of_one_signal(self):
        # Either machine makes another bit unknown, and the signal tells no difference.
        block = Block.read("bit x a\nbit y b\nsignal s none & x y")
        p = a_machine("run idle any -> run: cut a", "run tick any -> run: power a")
        q = a_machine("run idle any -> run: cut b", "run tick any -> run: power b")
        self.check_alike(block, p, q)
        alone = Block.read("bit x a\nbit y b\nsignal s none & x y\nsignal t none y")
        self.check_apart(alone, p, q, 1)
        back = a_machine("run idle any -> off: cut a", "off tick any -> run: power a, reset a")
        start = Block.read("bit x a start\nbit y b\nsignal s none & x y")
        self.check_apart(start, back, q, 2)
        self.assertEqual(parting(start, back, q, ["ask"]), ("idle", "tick"))

    def test_bits_that_no_formula_needs(self):
        block = Block.read("bit x a\nbit y b\nsignal s none | & x y & x ~ y")
        self.check_alike(block, a_machine("run idle any -> off: cut b"), DEAD)
        self.check_apart(block, a_machine("run idle any -> off: cut a"), DEAD, 1)
        self.check_alike(Block.read("bit x a"), a_machine("run idle any -> off: cut a"), DEAD)

    def test_only_a_fault_tells(self):
        p, q = a_machine("run idle any -> off: hold, save a"), a_machine("run idle any -> off: hold")
        loads = "off tick any -> off: load a"
        p, q = p + a_machine(loads), q + a_machine(loads)
        self.check_apart(TWO, p, q, 2)
        powered = a_machine("run idle any -> off: cut a, power a, fence f", "off tick any -> off: open f")
        cut = a_machine("run idle any -> off: cut a, fence f", "off tick any -> off: open f")
        self.check_alike(TWO, powered, cut)
        spilt = Block.read("bit x a kept keeper\nsignal s none x")
        first = "run idle any -> off: hold, save a, save a"
        second = "off dip a any -> off: load a"
        third = "off spill a any -> off: save a"
        p, q = a_machine(first, second), a_machine(first, second, third)
        self.check_apart(spilt, p, q, 3)
        self.assertEqual(parting(spilt, p, q), ("idle", "spill a", "dip a"))
        self.check_alike(spilt, p, q, ["spill a"])
        self.check_alike(spilt, p, q, ["dip"])
        self.check_apart(spilt, p, q, 3, ["spill b", "dip b", "tick"])

    def test_mismatch(self):
        for line in ("run idle any -> off: cut c", "run dip c any -> off", "run idle any -> off: fence x"):
            wrong = a_machine(line)
            for call in (alike, parting):
                self.check_error(Mismatch, {}, call, BLOCK, GOOD, wrong)
                self.check_error(Mismatch, {}, call, BLOCK, wrong, GOOD)
                self.check_error(Mismatch, {}, call, BLOCK, wrong, wrong, ["dip", "spill"])

    def test_by_chance(self):
        chance = random.Random(31)
        seen = {}
        for number in range(1500):
            block = any_block(chance, 3, "ab", 2, "fg")
            p = [any_machine, tame_machine][number % 2](chance, block)
            q = p
            for _ in range(chance.randint(1, 2)):
                q = changed_machine(chance, block, q)
            without = chance.choice([(), (), ["dip", "spill"], ("tick",), ["dip a", "spill b"]])
            many = fewest_apart(block, p, q, without)
            seen[many] = seen.get(many, 0) + 1
            if many is None:
                self.check_alike(block, p, q, without)
            else:
                self.check_apart(block, p, q, many, without)
        self.assertGreater(seen[None], 300)
        self.assertGreater(min(seen[many] for many in (1, 2, 3)), 40)
        self.assertGreater(max(many for many in seen if many is not None), 3)


if __name__ == "__main__":
    unittest.main()
