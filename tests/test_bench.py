"""Promises 32 and 33: benches."""

import random
import unittest

from wakesafe.bench import Bench
from wakesafe.errors import InvalidEvent, Mismatch, Refused
from wakesafe.machines import Machine
from wakesafe.runs import play
from tests.chance import any_block, any_machine, some_events, tame_machine
from tests.helper import BLOCK, Checks, GOOD, HASTY, a_machine, no_names
from tests.oracle import World

DEAD = Machine.read("first run")
PLAYED = ["state", "waits", "going", "powered", "raised", "rules", "answered", "goals", "contents", "keepers", "view"]
NO_EVENTS = ["", "ask ", " ask", "Ask", "dip", "spill", "dip c", "dip  a", "dip a ", "spill x", "hold", "asks", "dip a b",
             "none", "any", "tick\n", "reset a", ["ask"], ("ask",), ("dip", "a")]


class Stop(Exception):
    """An error of the tests."""


class BenchChecks(Checks):
    def check_bench(self, bench, machine, events, many):
        """The bench has this machine, has taken these events, and so many deeds can be taken back."""
        self.assertEqual((bench.machine, bench.events, len(bench)), (machine, tuple(events), many))
        self.assertIs(type(bench.events), tuple)
        self.assertIs(type(len(bench)), int)
        self.assertEqual(bench.block, BLOCK)
        wanted = play(BLOCK, machine, events)
        for name in PLAYED:
            self.assertEqual(getattr(bench.played, name), getattr(wanted, name), name)


class TakeTest(BenchChecks, unittest.TestCase):
    def test_a_new_bench(self):
        self.check_bench(Bench(BLOCK, GOOD), GOOD, [], 0)
        bench = Bench(BLOCK, GOOD)
        self.assertIs(bench.block, BLOCK)
        self.assertIs(bench.machine, GOOD)

    def test_take(self):
        bench = Bench(BLOCK, GOOD)
        self.assertEqual(bench.take("ask"), (True, ("clean",)))
        self.assertEqual(bench.take("idle"), (False, ("fenced",)))
        self.assertEqual(bench.take("ask"), (False, ("fenced",)))
        self.assertEqual(bench.take("tick"), (True, ("clean",)))
        self.assertEqual(bench.take("dip b"), (False, ("unknown",)))
        self.check_bench(bench, GOOD, ["ask", "idle", "ask", "tick", "dip b"], 5)

    def test_results(self):
        result = Bench(BLOCK, GOOD).take("ask")
        self.assertEqual([type(part) for part in (result, *result)], [tuple, bool, tuple])

    def test_by_chance(self):
        chance = random.Random(32)
        for number in range(60):
            block = any_block(chance)
            machine = [any_machine, tame_machine][number % 2](chance, block)
            bench, world = Bench(block, machine), World(block, machine)
            for at, event in enumerate(some_events(chance, block)):
                _, answered = world.take(event)
                self.assertEqual(bench.take(event), (answered, world.view()))
                self.assertEqual((len(bench), bench.played.contents), (at + 1, world.contents))

    def test_mismatch(self):
        for line in ("run idle any -> off: cut c", "run dip c any -> off", "run idle any -> off: fence x"):
            self.check_error(Mismatch, {}, Bench, BLOCK, a_machine(line))

    def test_no_events(self):
        bench = Bench(BLOCK, GOOD)
        for many in range(3):
            for value in no_names() + NO_EVENTS:
                if value not in ("ask", "idle", "tick"):
                    self.check_error(InvalidEvent, {"at": many}, bench.take, value)
            self.check_bench(bench, GOOD, ["idle"] * many, many)
            bench.take("idle")

    def test_number_of_events_so_far(self):
        bench = Bench(BLOCK, GOOD)
        bench.several(["idle", "ask", "tick"])
        self.check_error(InvalidEvent, {"at": 3}, bench.take, "dip c")
        bench.follow(HASTY)
        self.check_error(InvalidEvent, {"at": 0}, bench.take, "dip c")
        bench.undo()
        self.check_error(InvalidEvent, {"at": 3}, bench.take, "dip c")

    def test_benches_by_themselves(self):
        first, second = Bench(BLOCK, GOOD), Bench(BLOCK, GOOD)
        first.take("idle")
        self.check_bench(first, GOOD, ["idle"], 1)
        self.check_bench(second, GOOD, [], 0)

    def test_properties_cannot_be_set(self):
        bench = Bench(BLOCK, GOOD)
        for name in ("events", "played"):
            with self.assertRaises(AttributeError):
                setattr(bench, name, ())


class SeveralTest(BenchChecks, unittest.TestCase):
    def test_several(self):
        bench = Bench(BLOCK, GOOD)
        bench.take("ask")
        results = bench.several(["idle", "ask", "tick"])
        self.assertEqual(results, ((False, ("fenced",)), (False, ("fenced",)), (True, ("clean",))))
        self.assertEqual([type(part) for part in (results, *results)], [tuple] * 4)
        self.check_bench(bench, GOOD, ["ask", "idle", "ask", "tick"], 2)
        self.assertEqual(bench.several(("dip b",)), ((False, ("unknown",)),))
        self.check_bench(bench, GOOD, ["ask", "idle", "ask", "tick", "dip b"], 3)

    def test_none(self):
        bench = Bench(BLOCK, GOOD)
        for nothing in ([], ()):
            self.assertEqual(bench.several(nothing), ())
            self.assertIs(type(bench.several(nothing)), tuple)
        self.check_bench(bench, GOOD, [], 0)

    def test_refused(self):
        bench = Bench(BLOCK, GOOD)
        bench.take("idle")
        for value in no_names() + NO_EVENTS:
            if value in ("ask", "idle", "tick"):
                continue
            for at in range(3):
                given = ["ask", "tick", "dip b"][:at] + [value, "ask", "nothing"]
                with self.assertRaises(Refused) as caught:
                    bench.several(given)
                self.assertIs(type(caught.exception), Refused)
                self.assertEqual(caught.exception.at, at)
                cause = caught.exception.__cause__
                self.assertIs(type(cause), InvalidEvent)
                self.assertEqual(cause.at, at + 1)
                self.check_error(Refused, {"at": at}, bench.several, tuple(given))
        self.check_bench(bench, GOOD, ["idle"], 1)
        self.assertIs(bench.undo(), True)
        self.check_bench(bench, GOOD, [], 0)

    def test_arguments_stay_as_they_are(self):
        bench, given = Bench(BLOCK, GOOD), ["idle", "ask"]
        bench.several(given)
        self.assertEqual(given, ["idle", "ask"])
        given.append("tick")
        self.check_bench(bench, GOOD, ["idle", "ask"], 1)


class MachineTest(BenchChecks, unittest.TestCase):
    def test_setting(self):
        for many in range(2):
            bench = Bench(BLOCK, GOOD)
            bench.several(["idle", "ask"])
            if many:
                bench.machine = HASTY
            else:
                self.assertIs(bench.follow(HASTY), None)
            self.check_bench(bench, HASTY, [], 2)
            self.assertEqual(bench.take("idle"), (False, ("fenced",)))
            self.check_bench(bench, HASTY, ["idle"], 3)

    def test_an_equal_machine(self):
        bench = Bench(BLOCK, GOOD)
        bench.take("idle")
        bench.machine = GOOD
        self.check_bench(bench, GOOD, [], 2)
        bench.follow(Machine.read(str(GOOD)))
        self.check_bench(bench, GOOD, [], 3)
        self.assertEqual([bench.undo(), bench.undo()], [True, True])
        self.check_bench(bench, GOOD, ["idle"], 1)

    def test_mismatch(self):
        bench = Bench(BLOCK, GOOD)
        bench.take("idle")
        for line in ("run idle any -> off: cut c", "run dip c any -> off", "run idle any -> off: fence x"):
            wrong = a_machine(line)
            self.check_error(Mismatch, {}, bench.follow, wrong)
            self.check_error(Mismatch, {}, setattr, bench, "machine", wrong)
            self.check_bench(bench, GOOD, ["idle"], 1)


class UndoTest(BenchChecks, unittest.TestCase):
    def test_nothing_to_take_back(self):
        bench = Bench(BLOCK, GOOD)
        self.assertIs(bench.undo(), False)
        self.check_bench(bench, GOOD, [], 0)
        bench.take("idle")
        self.assertIs(bench.undo(), True)
        self.assertIs(bench.undo(), False)
        self.check_bench(bench, GOOD, [], 0)

    def test_each_deed(self):
        bench = Bench(BLOCK, GOOD)
        steps = [lambda: bench.take("idle"), lambda: bench.several(["ask", "tick"]), lambda: bench.follow(HASTY),
                 lambda: bench.several(["idle"]), lambda: setattr(bench, "machine", DEAD), lambda: bench.take("dip a")]
        stood = []
        for many, step in enumerate(steps):
            stood.append((bench.machine, bench.events))
            step()
            self.assertEqual(len(bench), many + 1)
        self.check_bench(bench, DEAD, ["dip a"], 6)
        for many in range(6)[::-1]:
            self.assertIs(bench.undo(), True)
            self.check_bench(bench, *stood[many], many)
        self.assertEqual(stood[3], (HASTY, ()))
        self.assertIs(bench.undo(), False)

    def test_going_on_behind_it(self):
        bench = Bench(BLOCK, GOOD)
        bench.several(["idle", "ask"])
        bench.undo()
        self.assertEqual(bench.take("ask"), (True, ("clean",)))
        self.check_bench(bench, GOOD, ["ask"], 1)

    def test_many(self):
        bench = Bench(BLOCK, GOOD)
        for at in range(60):
            bench.take(["idle", "ask", "tick"][at % 3])
        self.check_bench(bench, GOOD, ["idle", "ask", "tick"] * 20, 60)
        self.assertEqual([bench.undo() for _ in range(61)], [True] * 60 + [False])


class TrialTest(BenchChecks, unittest.TestCase):
    def a_bench(self):
        bench = Bench(BLOCK, GOOD)
        bench.take("idle")
        bench.follow(HASTY)
        bench.several(["idle", "ask"])
        return bench

    def try_all(self, bench):
        """Does all that a bench can do."""
        bench.undo()
        bench.undo()
        bench.several(["ask", "tick"])
        bench.machine = DEAD
        bench.take("dip a")

    def check_back(self, bench):
        """The bench is as it was made, with what can be taken back."""
        self.check_bench(bench, HASTY, ["idle", "ask"], 3)
        self.assertIs(bench.undo(), True)
        self.check_bench(bench, HASTY, [], 2)
        self.assertIs(bench.undo(), True)
        self.check_bench(bench, GOOD, ["idle"], 1)

    def test_trial(self):
        bench = self.a_bench()
        with bench.trial() as held:
            self.assertIs(held, bench)
            self.try_all(bench)
            self.check_bench(bench, DEAD, ["dip a"], 4)
        self.check_back(bench)

    def test_without_a_change(self):
        bench = self.a_bench()
        with bench.trial():
            pass
        self.check_back(bench)

    def test_errors_go_on(self):
        bench = self.a_bench()
        with self.assertRaises(Stop):
            with bench.trial():
                self.try_all(bench)
                raise Stop()
        self.check_bench(bench, HASTY, ["idle", "ask"], 3)
        with self.assertRaises(InvalidEvent) as caught:
            with bench.trial():
                bench.take("tick")
                bench.take("dip c")
        self.assertEqual(caught.exception.at, 3)
        self.check_back(bench)

    def test_as_it_was_when_it_was_entered(self):
        bench = Bench(BLOCK, GOOD)
        trial = bench.trial()
        bench.take("idle")
        with trial:
            bench.take("ask")
        self.check_bench(bench, GOOD, ["idle"], 1)

    def test_each_call_returns_a_new_one(self):
        bench = Bench(BLOCK, GOOD)
        first, second = bench.trial(), bench.trial()
        self.assertIsNot(first, second)
        with first:
            bench.take("idle")
            with second:
                bench.take("ask")
            self.check_bench(bench, GOOD, ["idle"], 1)
        self.check_bench(bench, GOOD, [], 0)

    def test_within(self):
        bench = self.a_bench()
        given = []

        def work(held):
            given.append(held)
            self.try_all(held)
            return held.events, len(held)

        self.assertEqual(bench.within(work), (("dip a",), 4))
        self.assertEqual(len(given), 1)
        self.assertIs(given[0], bench)
        self.assertIs(bench.within(lambda held: None), None)
        self.assertEqual(bench.within(lambda held: held.within(lambda inner: inner.take("tick"))), (True, ("clean",)))
        self.check_back(bench)

    def test_errors_within(self):
        bench = self.a_bench()

        def work(held):
            self.try_all(held)
            raise Stop()

        with self.assertRaises(Stop):
            bench.within(work)
        self.check_error(Refused, {"at": 1}, bench.within, lambda held: held.several(["ask", "dip c"]))
        self.check_back(bench)


if __name__ == "__main__":
    unittest.main()
