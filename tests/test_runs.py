"""Promises 14 to 18: runs."""

import itertools
import random
import unittest

from wakesafe.blocks import Block
from wakesafe.errors import InvalidEvent, Mismatch
from wakesafe.machines import Machine
from wakesafe.runs import Played, play
from tests.chance import any_block, any_machine, some_events, tame_machine
from tests.helper import BLOCK, Checks, GOOD, HASTY, a_machine, no_strings
from tests.oracle import World

ALL = Block.read("bit x a kept keeper\nbit y a kept keeper start\nbit z a start\nbit w a kept start\nbit v b\n"
                 "signal s f x\nsignal t none y\nsignal u g ^ z v")
ATTRIBUTES = ["state", "waits", "going", "powered", "raised", "rules", "answered", "goals", "view", "contents", "keepers"]


def after(deeds, block=ALL, event="idle"):
    """What has been played when some deeds were done on one event."""
    return play(block, a_machine(f"run {event} any -> run: {deeds}" if deeds else "run tick any -> run"), [event])


class BeginningTest(unittest.TestCase):
    def test_beginning(self):
        played = play(ALL, Machine("up"), [])
        self.assertIs(type(played), Played)
        self.assertEqual((played.state, played.waits, played.going), ("up", False, True))
        self.assertEqual((played.powered, played.raised), (("a", "b"), ()))
        self.assertEqual((played.rules, played.answered, played.goals), ((), (), ()))
        self.assertEqual(played.contents, dict.fromkeys("xyzwv", "right"))
        self.assertEqual(played.keepers, dict.fromkeys("xy", "unknown"))
        self.assertEqual(played.view, ("clean", "clean", "clean"))

    def test_nothing_happens_without_a_rule(self):
        played = play(ALL, a_machine("off idle any -> run: cut a", "run ask waits -> off: cut a"), ["idle", "tick", "ask"])
        self.assertEqual((played.state, played.waits, played.going, played.rules), ("run", False, True, (None,) * 3))
        self.assertEqual((played.powered, played.contents), (("a", "b"), dict.fromkeys("xyzwv", "right")))
        self.assertEqual((played.answered, played.goals), ((False,) * 3, ("swallowed",)))
        self.assertEqual(play(ALL, Machine("run"), ["idle", "tick"]).goals, ())


class DeedsTest(unittest.TestCase):
    def test_hold_and_go(self):
        self.assertIs(after("hold").going, False)
        self.assertIs(after("hold, hold, go").going, True)
        self.assertIs(after("go, hold").going, False)
        self.assertEqual((after("hold, go").goals, after("hold").view), ((), ("clean",) * 3))

    def test_fence_and_open(self):
        self.assertEqual(after("fence g").raised, ("g",))
        self.assertEqual(after("fence g, fence f").raised, ("f", "g"))
        self.assertEqual(after("fence g, fence f, open g").raised, ("f",))
        self.assertEqual(after("open f").raised, ())
        self.assertEqual(after("fence f").view, ("fenced", "clean", "clean"))
        self.assertEqual(after("fence f, fence g, cut a").view, ("fenced", "unknown", "fenced"))

    def test_cut_and_power(self):
        played = after("hold, cut a")
        self.assertEqual(played.powered, ("b",))
        self.assertEqual(played.contents, {"x": "unknown", "y": "unknown", "z": "unknown", "w": "unknown", "v": "right"})
        played = after("hold, cut a, power a, cut b")
        self.assertEqual((played.powered, set(played.contents.values())), (("a",), {"unknown"}))
        self.assertEqual(after("power a").contents, dict.fromkeys("xyzwv", "right"))
        self.assertEqual(after("hold, cut a, cut a").powered, ("b",))

    def test_save(self):
        self.assertEqual(after("hold, save a").keepers, {"x": "right", "y": "right"})
        self.assertEqual(after("hold, save b").keepers, {"x": "unknown", "y": "unknown"})
        self.assertEqual(after("hold, reset a, save a").keepers, {"x": "right", "y": "other"})
        self.assertEqual(after("hold, save a, cut a").keepers, {"x": "right", "y": "right"})
        self.assertEqual(after("hold, save a, cut a, save a").keepers, {"x": "unknown", "y": "unknown"})
        self.assertEqual(after("hold, save a, cut a, power a, save a").keepers, {"x": "unknown", "y": "unknown"})

    def test_load(self):
        contents = after("hold, save a, cut a, power a, load a").contents
        self.assertEqual(contents, {"x": "right", "y": "right", "z": "unknown", "w": "unknown", "v": "right"})
        self.assertEqual(after("hold, save a, cut a, load a").contents["x"], "unknown")
        self.assertEqual(after("hold, load a").contents["x"], "unknown")
        self.assertEqual(after("hold, load b").contents["v"], "right")
        self.assertEqual(after("hold, reset a, save a, load a").contents["y"], "other")
        self.assertEqual(after("hold, save a, load a").keepers, {"x": "right", "y": "right"})

    def test_reset(self):
        contents = after("hold, reset a").contents
        self.assertEqual(contents, {"x": "right", "y": "other", "z": "right", "w": "other", "v": "right"})
        contents = after("hold, cut a, power a, reset a").contents
        self.assertEqual(contents, {"x": "unknown", "y": "other", "z": "right", "w": "other", "v": "right"})
        self.assertEqual(after("hold, cut a, reset a").contents["z"], "unknown")
        self.assertEqual(after("hold, cut b, power b, reset b").contents["v"], "unknown")

    def test_bits_follow_the_work(self):
        self.assertEqual(after("save a").keepers, {"x": "other", "y": "other"})
        self.assertEqual(after("save a, hold").keepers, {"x": "other", "y": "other"})
        self.assertEqual(after("hold, save a, go").keepers, {"x": "other", "y": "other"})
        played = after("hold, reset a, go")
        self.assertEqual((played.contents["y"], played.goals), ("right", ("lost", "wrong")))
        played = after("save a, load a")
        self.assertEqual((played.contents["x"], played.goals), ("right", ("lost", "wrong")))
        self.assertEqual(after("hold, cut a, go").contents["x"], "unknown")
        self.assertEqual(after("hold, cut a, save a, go").keepers["x"], "unknown")

    def test_an_area_and_a_fence_with_the_same_name(self):
        block = Block.read("bit x f\nbit y g\nsignal s f y\nsignal t g x")
        for deeds in ("fence f, hold, save f, cut f, power f, reset f, load f", "hold, cut f, fence f, save f"):
            self.assertEqual((after(deeds, block).raised, after(deeds, block).contents), (("f",), {"x": "unknown", "y": "right"}))
        self.assertEqual((after("fence f, open f", block).powered, after("hold, cut f", block).raised), (("f", "g"), ()))
        self.assertEqual(after("hold, fence g, cut f", block).goals, ())
        self.assertEqual(after("hold, fence f, cut f", block).goals, ("leak",))

    def test_effects_reach_their_area_only(self):
        block = Block.read("bit x a kept keeper start\nbit y b kept keeper start\nsignal s f y")
        played = after("hold, save a, reset a, cut a, fence f", block)
        self.assertEqual((played.contents, played.keepers), ({"x": "unknown", "y": "right"}, {"x": "right", "y": "unknown"}))
        played = after("hold, save b, cut a, cut b, power b, load a, load b", block)
        self.assertEqual((played.contents, played.powered), ({"x": "unknown", "y": "right"}, ("b",)))


class FaultsTest(unittest.TestCase):
    def test_dip(self):
        played = play(ALL, Machine("run"), ["dip a"])
        self.assertEqual(played.contents, {"x": "unknown", "y": "unknown", "z": "unknown", "w": "unknown", "v": "right"})
        self.assertEqual((played.powered, played.rules, played.goals), (("a", "b"), (None,), ("blind", "leak", "lost")))
        self.assertEqual(play(ALL, Machine("run"), ["dip b"]).goals, ("blind", "leak"))
        self.assertEqual(play(ALL, Machine("run"), ["dip b"]).view, ("clean", "clean", "unknown"))

    def test_spill(self):
        machine = a_machine("run idle any -> run: hold, save a", "run tick any -> run: load a")
        played = play(ALL, machine, ["idle", "spill a"])
        self.assertEqual((played.keepers, played.goals), ({"x": "unknown", "y": "unknown"}, ()))
        self.assertEqual(play(ALL, machine, ["idle", "spill b"]).keepers, {"x": "right", "y": "right"})
        self.assertEqual(play(ALL, machine, ["idle", "spill a", "tick"]).contents["x"], "unknown")
        cut = a_machine("run idle any -> run: hold, save a, cut a")
        self.assertEqual(play(ALL, cut, ["idle", "spill a"]).keepers["x"], "unknown")

    def test_the_fault_comes_ahead_of_the_deeds(self):
        machine = a_machine("run dip a any -> off: hold, save a", "run spill a any -> off: hold, save a")
        played = play(ALL, machine, ["dip a"])
        self.assertEqual((played.state, played.rules, played.keepers["x"]), ("off", (0,), "unknown"))
        self.assertIn("blind", played.goals)
        self.assertEqual(play(ALL, machine, ["spill a"]).keepers["x"], "right")

    def test_held_work_is_not_blind_in_a_dip(self):
        block = Block.read("bit x a kept\nsignal s f x")
        machine = a_machine("run idle any -> run: hold, fence f")
        self.assertEqual(play(block, machine, ["idle", "dip a"]).goals, ())
        self.assertEqual(play(block, a_machine("run idle any -> run: hold"), ["idle", "dip a"]).goals, ("leak",))
        self.assertEqual(play(block, a_machine("run idle any -> run: fence f"), ["idle", "dip a"]).goals, ("blind", "lost"))

    def test_bits_do_not_follow_work_that_is_held(self):
        machine = a_machine("run idle any -> run: hold, reset a")
        self.assertEqual(play(ALL, machine, ["idle", "spill b", "dip b"]).contents["y"], "other")


class RulesTest(unittest.TestCase):
    def test_first_rule_that_fits(self):
        machine = a_machine("run ask waits -> up: answer", "run ask calm -> run: note", "run ask any -> off",
                            "up idle calm -> off", "up idle any -> run")
        played = play(BLOCK, machine, ["ask", "ask", "idle", "idle"])
        self.assertEqual((played.rules, played.state), ((1, 0, 3, None), "off"))
        self.assertEqual(played.answered, (False, True, False, False))

    def test_the_ask_that_comes_does_not_wait_yet(self):
        machine = a_machine("run ask waits -> up", "run ask calm -> off: note")
        self.assertEqual(play(BLOCK, machine, ["ask"]).rules, (1,))

    def test_state_and_events_in_the_next_state(self):
        played = play(BLOCK, GOOD, ["idle", "ask", "ask", "tick", "idle"])
        self.assertEqual((played.rules, played.state), ((1, 2, 3, 4, 1), "off"))


class AsksTest(unittest.TestCase):
    def check(self, lines, events, waits, answered, goals):
        played = play(BLOCK, a_machine(*lines), events)
        self.assertEqual((played.waits, played.answered, played.goals), (waits, answered, goals), (lines, events))

    def check_ask(self, deeds, waits, answered, goals):
        """What some deeds do with an ask, when ticks answer."""
        self.check([f"run ask any -> run: {deeds}", "run tick any -> run: answer"], ["ask"], waits, (answered,), goals)

    def test_one_ask(self):
        self.check_ask("note", True, False, ())
        self.check_ask("answer", False, True, ())
        self.check_ask("note, note", True, False, ())
        self.check_ask("note, answer", False, True, ())
        self.check_ask("answer, note", False, True, ())
        self.check_ask("answer, answer", False, True, ())
        self.check_ask("forget", False, False, ("swallowed",))
        self.check_ask("note, forget", False, False, ("swallowed",))
        self.check_ask("note, forget, note", False, False, ("swallowed",))
        self.check_ask("note, forget, answer", False, False, ("swallowed",))
        self.check_ask("forget, note", True, False, ())
        self.check_ask("forget, answer", False, True, ())
        self.check_ask("answer, forget", False, True, ())
        self.check_ask("answer, forget, note", False, True, ())
        self.check_ask("note, answer, forget", False, True, ())
        self.check_ask("hold, go", False, False, ("swallowed",))

    def test_answers_while_the_work_is_held(self):
        self.check_ask("hold, answer", False, True, ("hollow",))
        self.check_ask("hold, note, answer", False, True, ("hollow",))
        self.check_ask("answer, hold, answer", False, True, ())
        self.check_ask("hold, note, forget, answer", False, False, ("swallowed",))
        self.check_ask("hold, note, go, answer, hold", False, True, ())

    def test_asks_that_wait(self):
        lines = ["run ask any -> run: note", "run tick any -> run: answer", "run idle any -> run: forget",
                 "run dip a any -> run: hold, answer"]
        self.check(lines, ["ask", "tick"], False, (False, True), ())
        self.check(lines, ["ask", "ask", "tick", "tick"], False, (False, False, True, False), ())
        self.check(lines, ["tick"], False, (False,), ())
        self.check(lines, ["ask", "idle"], False, (False, False), ("swallowed",))
        self.check(lines, ["idle"], False, (False,), ())
        self.check(lines, ["ask", "idle", "tick"], False, (False, False, False), ("swallowed",))
        self.check(lines, ["ask", "dip a"], False, (False, True), ("blind", "hollow", "leak", "lost"))
        self.check(lines, ["dip a"], False, (False,), ("blind", "leak", "lost"))

    def test_an_ask_beside_those_that_wait(self):
        rest = ["run ask calm -> run: note", "run tick any -> run: answer"]
        self.check(["run ask waits -> run: answer", *rest], ["ask", "ask"], False, (False, True), ())
        self.check(["run ask waits -> run", *rest], ["ask", "ask"], True, (False, False), ("swallowed",))
        self.check(["run ask waits -> run: forget", *rest], ["ask", "ask"], False, (False, False), ("swallowed",))
        self.check(["run ask waits -> run: forget, answer", *rest], ["ask", "ask"], False, (False, True), ("swallowed",))
        self.check(["run ask waits -> run: forget, note", *rest], ["ask", "ask"], True, (False, False), ("swallowed",))
        self.check(["run ask waits -> run: note, forget, answer", *rest], ["ask", "ask"], False, (False, False),
                   ("swallowed",))

    def test_swallowed_whatever_else_waits(self):
        rest = ["run ask calm -> run: note", "run tick any -> run: answer"]
        played = play(BLOCK, a_machine(*rest), ["ask", "ask"])
        self.assertEqual((played.waits, played.goals), (True, ("swallowed",)))

    def test_stuck(self):
        self.check(["run ask any -> run: note"], ["ask"], True, (False,), ("stuck",))
        self.check(["run ask any -> off: note", "off tick any -> up", "up tick waits -> off: answer"], ["ask"], True, (False,), ())
        self.check(["run ask any -> off: note", "off tick any -> up", "up tick calm -> off: answer"], ["ask"], True, (False,),
                   ("stuck",))
        self.check(["run ask any -> off: note", "off tick any -> up", "up tick any -> off"], ["ask"], True, (False,), ("stuck",))
        self.check(["run ask any -> off: note", "off tick any -> up: forget, answer"], ["ask"], True, (False,), ("stuck",))
        self.check(["run ask any -> off: note", "off tick any -> up: answer, forget"], ["ask"], True, (False,), ())
        self.check(["run ask any -> off: note", "off idle any -> up: answer"], ["ask", "idle"], False, (False, True), ("stuck",))
        self.check(["run ask any -> off: note, answer"], ["ask"], False, (True,), ())

    def test_stuck_at_the_end_of_any_event(self):
        lines = ["run ask any -> off: note", "off tick any -> run: answer", "off idle any -> up"]
        self.check(lines, ["ask", "idle"], True, (False, False), ("stuck",))
        self.check(lines, ["ask", "dip a"], True, (False, False), ("blind", "leak", "lost"))
        self.check(["run ask any -> run: note", "run tick any -> off: answer, forget"], ["ask", "tick"], False,
                   (False, True), ())

    def test_a_state_behind_a_long_way(self):
        states = ["off", "up", "nap", "low", "wake"]
        lines = ["run ask any -> off: note"] + [f"{a} tick any -> {b}" for a, b in zip(states, states[1:])]
        self.check([*lines, "wake tick any -> run: hold, answer"], ["ask"], True, (False,), ())
        self.check([*lines, "wake tick any -> up: hold"], ["ask"], True, (False,), ("stuck",))


class GoalsTest(unittest.TestCase):
    def test_judged_after_each_deed(self):
        self.assertEqual(after("cut v", Block.read("bit x v")).goals, ("blind",))
        self.assertEqual(after("cut a, hold", Block.read("bit x a kept")).goals, ("blind", "lost"))
        self.assertEqual(after("hold, cut a", Block.read("bit x a kept")).goals, ())
        self.assertEqual(after("hold, cut a, go", Block.read("bit x a kept")).goals, ("blind", "lost"))
        self.assertEqual(after("hold, cut a, fence f", Block.read("bit x a\nsignal s f x")).goals, ("leak",))
        self.assertEqual(after("hold, fence f, cut a", Block.read("bit x a\nsignal s f x")).goals, ())
        self.assertEqual(after("hold, fence f, cut a, open f", Block.read("bit x a\nsignal s f x")).goals, ("leak",))
        self.assertEqual(after("hold, fence f, reset a", Block.read("bit x a kept start\nsignal s f x")).goals, ())
        self.assertEqual(after("hold, reset a", Block.read("bit x a kept start\nsignal s f x")).goals, ("wrong",))
        self.assertEqual(after("hold, reset a, fence f", Block.read("bit x a kept start\nsignal s f x")).goals, ("wrong",))
        self.assertEqual(after("fence f, reset a", Block.read("bit x a kept start\nsignal s f x")).goals, ("lost",))

    def test_goals_of_bits_that_are_not_kept(self):
        self.assertEqual(after("cut a", Block.read("bit x a start")).goals, ("blind",))
        self.assertEqual(after("reset a", Block.read("bit x a start\nsignal s f x")).goals, ())

    def test_what_a_formula_depends_on(self):
        block = Block.read("bit x a\nbit y b kept start\nsignal s f | & x y & ~ x y\nsignal t g 1\nsignal u h ^ x x")
        played = after("hold, cut a", block)
        self.assertEqual((played.goals, played.view), ((), ("clean",) * 3))
        played = after("hold, cut b", block)
        self.assertEqual((played.goals, played.view), (("leak",), ("unknown", "clean", "clean")))
        played = after("hold, reset b", block)
        self.assertEqual((played.goals, played.view), (("wrong",), ("wrong", "clean", "clean")))
        self.assertEqual(after("fence g, fence h", block).view, ("clean", "fenced", "fenced"))

    def test_an_unknown_bit_counts_whatever_the_others_hold(self):
        block = Block.read("bit x a\nbit y b kept start\nsignal s f & x y")
        played = after("hold, reset b, cut a", block)
        self.assertEqual((played.goals, played.view), (("leak", "wrong"), ("unknown",)))

    def test_signals_without_a_fence_are_open(self):
        block = Block.read("bit x a\nsignal s none x\nsignal t f x")
        self.assertEqual((after("hold, fence f, cut a", block).goals, after("hold, fence f, cut a", block).view),
                         (("leak",), ("unknown", "fenced")))

    def test_signals_with_the_same_fence(self):
        block = Block.read("bit x a\nbit y b\nsignal s f x\nsignal t f y\nsignal u g y")
        self.assertEqual(after("hold, fence f, cut b", block).view, ("fenced", "fenced", "unknown"))
        self.assertEqual(after("hold, fence f, cut b, open f", block).view, ("clean", "unknown", "unknown"))


class PlayTest(Checks, unittest.TestCase):
    def test_example(self):
        played = play(BLOCK, GOOD, ["idle", "ask"])
        found = (played.state, played.waits, played.powered, played.contents, played.keepers, played.view)
        self.assertEqual(found, ("wake", True, ("a", "b"), {"x": "unknown", "y": "right"}, {"x": "right"}, ("fenced",)))
        self.assertEqual(play(BLOCK, GOOD, ["idle", "ask", "tick"]).goals, ())
        self.assertEqual(play(BLOCK, HASTY, ["idle", "ask", "tick"]).goals, ("lost", "wrong"))

    def test_kinds_of_values(self):
        played = play(BLOCK, GOOD, ["idle", "ask", "tick"])
        for name in ("waits", "going"):
            self.assertIs(type(getattr(played, name)), bool)
        for name in ("powered", "raised", "rules", "answered", "goals", "view"):
            self.assertIs(type(getattr(played, name)), tuple)
        self.assertEqual([type(one) for one in played.answered], [bool] * 3)
        self.assertEqual([type(one) for one in played.rules], [int] * 3)
        self.assertEqual(play(BLOCK, GOOD, ["spill a"]).rules, (None,))
        for name in ATTRIBUTES[:9]:
            self.assertIn(name, vars(played))

    def test_dicts_are_new_and_in_order(self):
        played = play(ALL, GOOD_FOR_ALL, [])
        self.assertEqual((list(played.contents), list(played.keepers)), (list("xyzwv"), ["x", "y"]))
        for name in ("contents", "keepers"):
            told = getattr(played, name)
            self.assertIs(type(told), dict)
            told.clear()
            self.assertNotEqual(getattr(played, name), told)

    def test_mismatch(self):
        for line in ("run ask any -> run: cut c", "run dip c any -> run", "run idle any -> run: fence g",
                     "run tick any -> run: hold, open x", "run spill f any -> run"):
            self.check_error(Mismatch, {}, play, BLOCK, a_machine(line), [])
            self.check_error(Mismatch, {}, play, BLOCK, a_machine(line), None)
            self.check_error(Mismatch, {}, play, BLOCK, a_machine(line), ["dip f"])
        self.assertEqual(play(BLOCK, a_machine("run ask any -> run: cut b, open f"), []).goals, ())

    def test_events_that_are_no_sequence(self):
        for value in no_strings() + ["", "ask", "a"]:
            if not isinstance(value, (list, tuple)):
                self.check_error(InvalidEvent, {"at": 0}, play, BLOCK, GOOD, value)

    def test_items_that_are_no_events(self):
        wrong = ["", "Ask", "ask ", " ask", "dip", "spill", "dip c", "spill f", "dip a ", "dip  a", "ask a", "any", "cut a",
                 "note", "dip a b", "idle\n", "x"]
        for value in wrong + no_strings():
            self.check_error(InvalidEvent, {"at": 0}, play, BLOCK, GOOD, [value])
            self.check_error(InvalidEvent, {"at": 2}, play, BLOCK, GOOD, ["ask", "dip a", value, "idle", 7])
            self.check_error(InvalidEvent, {"at": 1}, play, BLOCK, GOOD, ("spill b", value))

    def test_lists_and_tuples(self):
        events = ["idle", "dip b", "ask", "tick"]
        first, second = play(BLOCK, GOOD, events), play(BLOCK, GOOD, tuple(events))
        for name in ATTRIBUTES:
            self.assertEqual(getattr(first, name), getattr(second, name))
        self.assertEqual(events, ["idle", "dip b", "ask", "tick"])

    def test_all_short_sequences(self):
        for machine in (GOOD, HASTY):
            events = ["ask", "idle", "tick", "dip a", "spill a", "dip b"]
            for many in range(5):
                for given in itertools.product(events, repeat=many):
                    self.check_like_the_oracle(BLOCK, machine, given)

    def test_runs_by_chance(self):
        for seed in range(1500):
            chance = random.Random(seed)
            block = any_block(chance)
            machine = chance.choice([any_machine, tame_machine])(chance, block)
            self.check_like_the_oracle(block, machine, some_events(chance, block))

    def check_like_the_oracle(self, block, machine, events):
        world = World(block, machine)
        done = [world.take(event) for event in events]
        played = play(block, machine, events)
        found = tuple(getattr(played, name) for name in ATTRIBUTES)
        powered = tuple(sorted(area for area in world.powered if world.powered[area]))
        raised = tuple(sorted(fence for fence in world.raised if world.raised[fence]))
        wanted = (world.state, bool(world.waiting), world.going, powered, raised, tuple(rule for rule, _ in done),
                  tuple(answered for _, answered in done), tuple(sorted(world.goals)), world.view(), world.contents,
                  world.keepers)
        self.assertEqual(found, wanted, (str(block), str(machine), events))


GOOD_FOR_ALL = a_machine("run idle any -> off: hold, save a, cut a")


if __name__ == "__main__":
    unittest.main()
