"""Promises 22 and 23: papers."""

import itertools
import random
import unittest

from wakesafe.blocks import Block
from wakesafe.deciding import happens
from wakesafe.errors import InvalidGoal, Mismatch
from wakesafe.machines import Machine
from wakesafe.papers import paper, paper_holds
from tests.chance import any_block, any_machine, tame_machine
from tests.helper import BLOCK, CONTENTS, Checks, GOALS, GOOD, HASTY, NO_GOALS, a_machine, no_names, no_strings
from tests.oracle import World, alone, events_of, is_right, standing_of, watches_of, world_at

TOLD = (("", (("run", False, True), ("off", False, False), ("wake", True, False))),)
FLAGS = [False, True]


def any_standing(chance, block, machine, watch):
    """Some standing on a watch, also one that cannot come."""
    standing = (chance.choice(machine.states), chance.random() < 0.5, chance.random() < 0.5)
    if watch == "":
        return standing
    part = alone(block, watch)
    keeper = chance.choice(CONTENTS) if part.bits[0].keeper else ""
    standing += (chance.random() < 0.5, chance.choice(CONTENTS), keeper)
    if isinstance(watch, tuple):
        standing += (part.signals[0].fence is None or chance.random() < 0.5,)
    return standing


def closed(block, machine, watch, standings, without):
    """These standings and all that come behind them."""
    found = list(standings)
    for standing in found:
        for event in events_of(block, without):
            world = world_at(block, machine, watch, standing)
            world.take(event)
            if standing_of(world, watch) not in found:
                found.append(standing_of(world, watch))
    return found


class ExamplesTest(unittest.TestCase):
    def test_examples(self):
        self.assertEqual((paper_holds(BLOCK, GOOD, "hollow", TOLD, ["dip", "spill"]), paper_holds(BLOCK, GOOD, "hollow", TOLD)),
                         (True, True))
        self.assertEqual((paper(BLOCK, HASTY, "lost"), paper_holds(BLOCK, GOOD, "stuck", paper(BLOCK, GOOD, "stuck"))),
                         (None, True))


class PaperTest(unittest.TestCase):
    def check(self, block, machine, goal, without):
        told = paper(block, machine, goal, without)
        self.assertIs(told is None, happens(block, machine, goal, without))
        if told is None:
            return 0
        self.assertEqual(sorted(watch for watch, _ in told), sorted(watches_of(block, goal)))
        self.assertTrue(is_right(block, machine, goal, told, without))
        self.assertIs(paper_holds(block, machine, goal, told, without), True)
        self.assertIs(paper_holds(block, machine, goal, told[::-1], without), True)
        return 1

    def test_by_chance(self):
        many = 0
        for seed in range(250):
            chance = random.Random(seed)
            block = any_block(chance)
            machine = chance.choice([any_machine, tame_machine])(chance, block)
            without = [word for word in ("ask", "idle", "tick", "dip", "spill", "dip a") if chance.random() < 0.4]
            many += sum(self.check(block, machine, goal, without) for goal in GOALS)
        self.assertGreater(many, 500)

    def test_form(self):
        block = Block.read("bit x a kept keeper\nbit y b\nsignal s f & x y\nsignal t none y")
        told = dict(paper(block, Machine("run"), "blind", ["dip"]))
        self.assertEqual(told, {"x": (("run", False, True, True, "right", "unknown"),),
                                "y": (("run", False, True, True, "right", ""),)})
        told = dict(paper(block, Machine("run"), "leak", ["dip"]))
        self.assertEqual(told, {("s", "x"): (("run", False, True, True, "right", "unknown", True),),
                                ("s", "y"): (("run", False, True, True, "right", "", True),),
                                ("t", "y"): (("run", False, True, True, "right", "", True),)})
        self.assertEqual(paper(block, Machine("run"), "hollow"), (("", (("run", False, True),)),))
        self.assertEqual(dict(paper(block, Machine("run"), "wrong")).keys(), {("s", "x")})
        self.assertEqual(dict(paper(block, Machine("run"), "lost", ["dip"])).keys(), {"x"})

    def test_goals_without_watches(self):
        block = Block.read("bit x a\nsignal s f 1")
        for goal in ("leak", "lost", "wrong"):
            self.assertEqual(paper(block, Machine("run"), goal), ())
            self.assertIs(paper_holds(block, Machine("run"), goal, ()), True)
            self.assertIs(paper_holds(block, Machine("run"), goal, TOLD), False)


class HoldsTest(Checks, unittest.TestCase):
    def check(self, value, right, goal="hollow", without=("dip", "spill"), block=BLOCK, machine=GOOD):
        self.assertIs(paper_holds(block, machine, goal, value, without), right, value)

    def test_more_and_fewer_standings(self):
        standings = TOLD[0][1]
        self.check((("", standings[::-1]),), True)
        self.check((("", standings + standings),), True)
        for at in range(3):
            self.check((("", standings[:at] + standings[at + 1:]),), False)
        self.check((("", ()),), False)
        self.check((("", standings + (("run", True, True),)),), True)
        self.check((("", standings + (("run", True, True), ("run", False, False), ("run", True, False))),), False)
        self.check((("", standings + (("off", False, True),)),), False)
        self.check((("", standings + (("off", False, True), ("wake", True, True))),), True)

    def test_standings_that_meet_the_goal(self):
        machine = a_machine("run ask any -> run: answer", "off ask any -> run: hold, answer")
        standings = (("run", False, True), ("run", False, False), ("off", False, True))
        self.check((("", standings[:1]),), True, machine=machine)
        self.check((("", standings),), False, machine=machine)
        machine = a_machine("run ask any -> run: answer")
        self.check((("", (("run", False, True), ("run", True, True))),), False, "stuck", machine=machine)
        self.check((("", (("run", False, True), ("run", True, True))),), True, "hollow", machine=machine)
        self.check((("", (("run", False, True), ("run", True, True))),), True, "stuck", ["idle", "tick", "dip", "spill"],
                   machine=machine)

    def test_faults_of_other_areas_are_judged(self):
        # No other act happens here; a fault anywhere lets bits follow, and is judged.
        block = Block.read("bit x a kept keeper\nbit y b\nsignal s f x")
        first = ("run", False, True, True, "right", "unknown")
        other = ("run", False, True, True, "other", "unknown")
        keeper = ("run", False, True, True, "right", "right")
        for without, right in ((["dip a"], False), (["dip", "spill"], True), (["dip", "spill a"], False), (["dip a", "spill"], False)):
            self.check((("x", (first, other)),), right, "lost", without, block, Machine("run"))
            if not right:
                self.check((("x", (first, keeper)),), False, "lost", without, block, Machine("run"))
        follows = ("run", False, True, True, "right", "other")
        self.check((("x", (first, keeper, follows)),), True, "lost", ["dip a", "spill a"], block, Machine("run"))
        self.check((("x", (first, keeper)),), False, "lost", ["dip a", "spill a"], block, Machine("run"))
        shown = [standing + (True,) for standing in (first, other)]
        self.check(((("s", "x"), tuple(shown)),), False, "wrong", ["dip a", "spill"], block, Machine("run"))
        self.check(((("s", "x"), tuple(shown)),), True, "wrong", ["dip", "spill"], block, Machine("run"))

    def test_by_chance(self):
        counts = {True: 0, False: 0}
        for seed in range(250):
            chance = random.Random(seed)
            block = any_block(chance, bits=2)
            machine = chance.choice([any_machine, tame_machine])(chance, block)
            without = [word for word in ("ask", "idle", "tick", "dip", "spill", "dip b") if chance.random() < 0.5]
            for goal in GOALS:
                told = []
                for watch in watches_of(block, goal):
                    some = [any_standing(chance, block, machine, watch) for _ in range(chance.randint(0, 2))]
                    beginning = standing_of(World(alone(block, watch), machine), watch)
                    standings = closed(block, machine, watch, [beginning, *some], without)
                    if chance.random() < 0.15:
                        standings.pop(chance.randrange(len(standings)))
                    chance.shuffle(standings)
                    told.append((watch, tuple(standings)))
                right = is_right(block, machine, goal, told, without)
                counts[right] += 1
                self.check(tuple(told), right, goal, without, block, machine)
        self.assertGreater(min(counts.values()), 300)

    def test_each_watch_once(self):
        block = Block.read("bit x a kept keeper\nbit y b\nsignal s f & x y")
        for goal in ("blind", "leak"):
            told = paper(block, GOOD_WITHOUT_FAULTS, goal, ["dip"])
            self.assertEqual(len(told), 2)
            right = {"goal": goal, "without": ["dip"], "block": block, "machine": GOOD_WITHOUT_FAULTS}
            self.check(told, True, **right)
            self.check(told[::-1], True, **right)
            self.check(told[:1], False, **right)
            self.check(told + told[:1], False, **right)
            self.check((told[0], told[0]), False, **right)
            self.check(told + TOLD, False, **right)
            self.check((), False, **right)
            self.check(((told[0][0], told[1][1]), (told[1][0], told[0][1])), False, **right)
        self.check((("y", paper(block, Machine("run"), "lost", ["dip"])[0][1]),), False, "lost", ["dip"], block, Machine("run"))

    def test_wrong_forms_of_papers(self):
        standings = TOLD[0][1]
        wrong = [list(TOLD), TOLD[0], (list(TOLD[0]),), (("", list(standings)),), (("", [list(one) for one in standings]),),
                 (("", tuple(list(one) for one in standings)),), (("",),), (("", standings, ()),), ((standings, ""),),
                 (("x", standings),), ((("",), standings),), ((None, standings),), ((("s", "x"), standings),), ("",), "",
                 {"": standings}, ((), standings), ("", standings), (None,), ((False, standings),)]
        for value in wrong + no_names():
            self.check(value, False)
        for value in no_strings() + ["", "x", "run"]:
            self.check((value,), False)
            self.check((("", value),), False)
            self.check(((value, standings),), value == "")

    def test_wrong_forms_of_standings(self):
        standings = TOLD[0][1]
        wrong = [("run", False), ("run", False, True, True), ("run", 0, 1), ("run", False, 1), ("run", 0, True),
                 ("up", False, True), ("", False, True), (None, False, True), (True, False, "run"), ["run", False, True],
                 ("run", "False", True), ("run", None, True), (("run",), False, True), (["run"], False, True),
                 ("run", [], True), ("run", False, [True]), "run", ("wake", True, False, "right"), ()]
        for value in wrong + no_names():
            self.check((("", standings + (value,)),), False)
            self.check((("", (value,) + standings),), False)

    def test_every_item_of_a_standing(self):
        block = Block.read("bit x a kept keeper\nbit y b\nsignal s f & x y\nsignal t none x")
        others = ["hold", "wake", "", "Right", "none", "known", 0, 1, None, [], (), ["right"], block]
        for goal, watch in (("blind", "x"), ("blind", "y"), ("leak", ("s", "x")), ("leak", ("s", "y")), ("leak", ("t", "x"))):
            told = dict(paper(block, Machine("run"), goal, ["dip"]))
            self.assertIn(watch, told)
            standing = told[watch][0]
            for at in range(len(standing)):
                for value in others + CONTENTS + FLAGS:
                    if type(value) is not type(standing[at]) or value != standing[at]:
                        self.check_changed(block, goal, told, watch, at, value)

    def check_changed(self, block, goal, told, watch, at, value):
        """A standing that the first one could be but for one item."""
        standing = told[watch][0]
        changed = standing[:at] + (value,) + standing[at + 1:]
        bit = alone(block, watch).bits[0]
        contents = isinstance(value, str) and value in CONTENTS and (at == 4 or (at == 5 and bit.keeper))
        flags = isinstance(value, bool) and at in (1, 2, 3, 6) and not (at == 6 and watch[0] == "t")
        given = {**told, watch: (*told[watch], changed)}
        # Without events and rules nothing comes behind a standing, so that its form alone decides.
        events = ["ask", "idle", "tick", "dip", "spill"]
        self.check(tuple(given.items()), contents or flags, goal, events, block, Machine("run"))

    def test_states_of_the_machine(self):
        machine = a_machine("run ask any -> run: answer", "off ask any -> up: answer")
        for state in ("off", "up", "run"):
            self.check((("", (("run", False, True), (state, False, True), ("up", False, True))),), True, "hollow",
                       machine=machine)
        self.check((("", (("run", False, True), ("wake", False, True))),), False, "hollow", machine=machine)

    def test_left_aside(self):
        self.check((("", TOLD[0][1][:1]),), True, "hollow", ["idle"])
        self.check((("", TOLD[0][1][:2]),), True, "hollow", ["ask"])
        self.check((("", TOLD[0][1][:2]),), False, "hollow", ["tick"])


GOOD_WITHOUT_FAULTS = a_machine("run ask any -> run: answer")


class ErrorsTest(Checks, unittest.TestCase):
    def test_no_goals(self):
        other = a_machine("run ask any -> run: cut c")
        for value, machine in itertools.product(NO_GOALS + no_strings(), (GOOD, other)):
            self.check_error(InvalidGoal, {}, paper, BLOCK, machine, value)
            self.check_error(InvalidGoal, {}, paper_holds, BLOCK, machine, value, TOLD)

    def test_mismatch(self):
        for line, goal in itertools.product(("cut c", "fence g"), GOALS):
            machine = a_machine("run ask any -> run: " + line)
            self.check_error(Mismatch, {}, paper, BLOCK, machine, goal)
            self.check_error(Mismatch, {}, paper_holds, BLOCK, machine, goal, TOLD)
            self.check_error(Mismatch, {}, paper_holds, BLOCK, machine, goal, None)


if __name__ == "__main__":
    unittest.main()
