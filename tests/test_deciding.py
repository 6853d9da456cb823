"""Promises 19 to 21: what happens in all sequences of events."""

import itertools
import random
import unittest

from wakesafe.blocks import Block
from wakesafe.deciding import comes, culprits, goals, happens, least
from wakesafe.errors import InvalidGoal, Mismatch, NoRule
from wakesafe.machines import Machine
from wakesafe.runs import play
from tests.chance import any_block, any_machine, tame_machine
from tests.helper import BLOCK, Checks, GOALS, GOOD, HASTY, NO_GOALS, a_machine, no_strings
from tests.oracle import World, alone, events_of, explore, watches_of

ASIDE = ["ask", "idle", "tick", "dip", "spill", "dip a", "spill b", "dip zz"]
WITH_GOAL = (happens, least, culprits)


class ExamplesTest(unittest.TestCase):
    def test_overview(self):
        self.assertEqual((goals(BLOCK, GOOD, ["dip", "spill"]), goals(BLOCK, GOOD, ["spill"])),
                         ((), ("blind", "leak", "lost")))
        self.assertEqual((goals(BLOCK, HASTY, ["dip", "spill"]), least(BLOCK, HASTY, "lost", ["dip", "spill"])),
                         (("lost", "wrong"), ("idle", "ask", "tick")))

    def test_culprits(self):
        found = culprits(BLOCK, GOOD, "leak", ["spill"]), culprits(BLOCK, GOOD, "lost"), culprits(BLOCK, GOOD, "stuck")
        self.assertEqual(found, ((("s", "x"), ("s", "y")), ("x",), ()))


class DecidingTest(Checks, unittest.TestCase):
    def check_all(self, block, machine, without):
        """Compares all functions with an exploring of whole blocks, event by event."""
        told = (str(block), str(machine), without)
        found, rules = explore(World(block, machine), events_of(block, without))
        self.assertEqual(goals(block, machine, without), tuple(sorted(found)), told)
        for goal in GOALS:
            self.assertIs(happens(block, machine, goal, without), goal in found, told)
            self.check_least(block, machine, goal, without, found.get(goal))
        for at in range(len(machine)):
            self.assertIs(comes(block, machine, at, without), at in rules, told)

    def check_least(self, block, machine, goal, without, many):
        events = least(block, machine, goal, without)
        if many is None:
            self.assertIsNone(events)
            return
        self.assertIs(type(events), tuple)
        self.assertEqual(len(events), many)
        self.assertIn(goal, play(block, machine, events).goals)
        self.assertNotIn(goal, play(block, machine, events[:-1]).goals)
        self.assertTrue(set(events) <= set(events_of(block, without)))

    def check_culprits(self, block, machine, goal, without):
        wanted = []
        for watch in watches_of(block, goal):
            if goal in explore(World(alone(block, watch), machine), events_of(block, without))[0]:
                wanted.append(watch)
        self.assertEqual(culprits(block, machine, goal, without), tuple(sorted(wanted)))

    def test_examples_without_some_events(self):
        for many in range(4):
            for without in itertools.combinations(ASIDE, many):
                for machine in (GOOD, HASTY):
                    self.check_all(BLOCK, machine, list(without))

    def test_by_chance(self):
        for seed in range(250):
            chance = random.Random(seed)
            block = any_block(chance)
            machine = chance.choice([any_machine, tame_machine])(chance, block)
            without = [word for word in ASIDE if chance.random() < 0.3]
            self.check_all(block, machine, without)
            for goal in GOALS:
                self.check_culprits(block, machine, goal, without)

    def test_every_goal_happens_somewhere(self):
        cases = [("blind", "idle any -> run: cut a", ("idle",)), ("hollow", "ask any -> run: hold, answer", ("ask",)),
                 ("leak", "idle any -> run: hold, cut b", ("idle",)), ("lost", "tick any -> run: cut a, hold", ("tick",)),
                 ("stuck", "ask any -> run: note", ("ask",)), ("swallowed", "idle any -> run", ("ask",)),
                 ("wrong", "idle any -> run: hold, save a, go, hold, load a", ("idle",))]
        for goal, line, events in cases:
            machine = a_machine("run " + line)
            self.assertEqual(least(BLOCK, machine, goal, ["dip"]), events, goal)
            self.assertIs(happens(BLOCK, machine, goal, ["dip"]), True)
            self.assertIn(goal, goals(BLOCK, machine, ["dip"]))
            self.assertIs(happens(BLOCK, machine, goal, ["dip", events[0]]), False)
            self.assertIsNone(least(BLOCK, machine, goal, ["dip", events[0]]))

    def test_fewest_events_over_all_watches(self):
        block = Block.read("bit x a kept\nbit y b kept")
        machine = a_machine("run idle any -> up: hold, cut b", "up idle any -> off: cut a", "off tick any -> off: go",
                            "up ask any -> off: note, go")
        self.assertEqual(least(block, machine, "lost", ["dip"]), ("idle", "ask"))
        self.assertEqual(least(block, machine, "lost", ["dip", "ask"]), ("idle", "idle", "tick"))
        self.assertEqual(culprits(block, machine, "lost", ["dip", "ask"]), ("x", "y"))

    def test_left_aside(self):
        for word in ("dip", "dip a"):
            self.assertNotIn("lost", goals(BLOCK, GOOD, ["spill", word]))
        self.assertEqual(goals(BLOCK, GOOD, ["spill", "dip a"]), ("blind", "leak"))
        self.assertEqual(goals(BLOCK, GOOD, ["spill", "dip b"]), ("blind", "leak", "lost"))
        self.assertEqual(goals(BLOCK, GOOD, ["spill a", "dip zz", "dip b", "dip a"]), ())
        self.assertEqual(goals(BLOCK, GOOD, ("spill", "dip")), ())
        self.assertEqual(goals(BLOCK, GOOD), goals(BLOCK, GOOD, []))
        self.assertEqual(goals(BLOCK, Machine("run")), ("blind", "leak", "lost", "swallowed"))
        self.assertEqual(goals(BLOCK, Machine("run"), ["ask", "dip"]), ())

    def test_stuck_does_not_ask_whether_ticks_are_left_aside(self):
        self.assertEqual(goals(BLOCK, GOOD, ["tick", "dip", "spill"]), ())
        machine = a_machine("run ask any -> run: note", "run idle any -> run: answer")
        self.assertEqual(goals(BLOCK, machine, ["tick", "dip", "spill"]), ("stuck",))

    def test_goals_without_watches(self):
        block = Block.read("bit x a\nsignal s f 1")
        self.assertEqual(goals(block, Machine("run"), ["ask"]), ("blind",))
        for goal in ("leak", "lost", "wrong"):
            self.assertIs(happens(block, Machine("run"), goal), False)
            self.assertIsNone(least(block, Machine("run"), goal))
            self.assertEqual(culprits(block, Machine("run"), goal), ())


class ComesTest(Checks, unittest.TestCase):
    def test_rules_that_come(self):
        for at in range(5):
            self.assertIs(comes(BLOCK, GOOD, at), True)
            self.assertIs(comes(BLOCK, GOOD, at, ["idle"]), at == 0)
        machine = a_machine("run ask any -> off", "run ask calm -> up: note", "up tick any -> run", "off idle waits -> up",
                            "off dip a any -> nap", "nap idle calm -> nap")
        self.assertEqual([comes(BLOCK, machine, at) for at in range(6)], [True, False, False, False, True, True])
        self.assertEqual([comes(BLOCK, machine, at, ["dip"]) for at in range(6)], [True] + [False] * 5)

    def test_no_rule(self):
        for at in (5, 6, -1, -5, 10 ** 30):
            self.check_error(NoRule, {"at": at}, comes, BLOCK, GOOD, at)
        self.check_error(NoRule, {"at": 0}, comes, BLOCK, Machine("run"), 0)


class CulpritsTest(unittest.TestCase):
    def test_goals_of_the_whole(self):
        machine = a_machine("run ask any -> run: hold, note, answer", "run idle any -> off", "off ask any -> off: note")
        self.assertEqual(culprits(BLOCK, machine, "hollow"), ("",))
        self.assertEqual(culprits(BLOCK, machine, "stuck"), ("",))
        self.assertEqual(culprits(BLOCK, machine, "swallowed"), ())
        self.assertEqual(culprits(BLOCK, Machine("run"), "swallowed"), ("",))

    def test_ascending_watches(self):
        block = Block.read("bit z a kept\nbit y a\nbit x a kept start\nsignal t f & z x\nsignal s g | y x\nsignal r f ^ y y")
        machine = a_machine("run idle any -> run: cut a", "run tick any -> run: power a, reset a, hold, reset a")
        self.assertEqual(culprits(block, machine, "blind"), ("x", "y", "z"))
        self.assertEqual(culprits(block, machine, "lost"), ("x", "z"))
        self.assertEqual(culprits(block, machine, "leak"), (("s", "x"), ("s", "y"), ("t", "x"), ("t", "z")))
        self.assertEqual(culprits(block, machine, "wrong"), (("s", "x"), ("t", "x")))

    def test_bits_alike_but_for_one_thing(self):
        block = Block.read("bit x a kept keeper\nbit y a kept\nbit z b kept keeper\nbit w a kept keeper start\nbit v a start")
        machine = a_machine("run idle any -> off: hold, save a, save b, cut a, cut b",
                            "off tick any -> run: power a, load a, power b, reset a, go")
        self.assertEqual(culprits(block, machine, "lost", ["dip", "spill"]), ("w", "y", "z"))
        self.assertEqual(culprits(block, machine, "blind", ["dip", "spill"]), ("y", "z"))

    def test_signals_alike_but_for_the_fence(self):
        block = Block.read("bit x a\nsignal s f x\nsignal t none x\nsignal u g x\nsignal v f x")
        machine = a_machine("run idle any -> run: hold, fence f, cut a")
        self.assertEqual(culprits(block, machine, "leak", ["dip"]), (("t", "x"), ("u", "x")))


class ErrorsTest(Checks, unittest.TestCase):
    def test_no_goals(self):
        for value in NO_GOALS + no_strings():
            for call in WITH_GOAL:
                self.check_error(InvalidGoal, {}, call, BLOCK, GOOD, value)
                self.check_error(InvalidGoal, {}, call, BLOCK, a_machine("run ask any -> run: cut c"), value, ["dip"])

    def test_mismatch(self):
        for line in ("cut c", "hold, fence g", "open a", "save x"):
            machine = a_machine("run ask any -> run: " + line)
            for goal, call in itertools.product(GOALS, WITH_GOAL):
                self.check_error(Mismatch, {}, call, BLOCK, machine, goal)
            self.check_error(Mismatch, {}, goals, BLOCK, machine)
            self.check_error(Mismatch, {}, comes, BLOCK, machine, 0)
            self.check_error(Mismatch, {}, comes, BLOCK, machine, -1)
        self.check_error(Mismatch, {}, goals, BLOCK, a_machine("run dip f any -> run"), ["dip"])


if __name__ == "__main__":
    unittest.main()
