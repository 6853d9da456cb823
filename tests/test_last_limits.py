"""Promise 3 for needs, alike, benches and desks."""

import random
import unittest

from wakesafe.alike import alike, parting
from wakesafe.bench import Bench
from wakesafe.blocks import Block
from wakesafe.deciding import goals
from wakesafe.desk import Desk
from wakesafe.machines import Machine, Rule
from wakesafe.needs import needed_fences, needed_keepers, needless_rules
from wakesafe.orders import sleep_order
from wakesafe.runs import play
from tests.chance import any_machine, tame_machine
from tests.oracle import events_of, fewest_apart, fewest_names

# Four bits of all kinds that differ, all seen by three signals, behind two fences and none.
BLOCK = Block.read("bit w a kept keeper start\nbit x a kept keeper\nbit y b kept keeper start\nbit z b kept keeper\n"
                   "signal s f & & w x & y z\nsignal t g | | w x | y z\nsignal u none ^ ^ w x ^ y z")
# Twelve rules and five states, made to come to as many standings as could be found.
WIDE = Machine.read("""first p
t tick any -> p
p idle any -> s
q ask any -> t
s ask waits -> q: save a, fence g, cut a, fence g, forget, answer
p spill b waits -> q: power b, answer, power b, power a, save b, forget, load b, save b
r tick any -> r: load a, reset b, power b, fence f, load b, save b, answer, power a
s idle any -> p: cut b, answer
r idle any -> q: reset b, open g
s tick any -> r
t idle any -> r: fence g, open g, forget, open f, open g, reset a, forget
t ask calm -> q: note, reset a
r ask any -> q: power a, reset a, load a, power a, hold""")


def renamed(machine):
    """The same machine with other names for its states."""
    names = {state: state + "x" for state in machine.states}
    rules = [Rule(names[rule.state], rule.event, rule.guard, names[rule.then], rule.deeds) for rule in machine.rules]
    return Machine(names[machine.first], rules)


class AlikeTest(unittest.TestCase):
    def test_many_standings(self):
        self.assertEqual((len(WIDE), len(WIDE.states)), (12, 5))
        self.assertIs(alike(BLOCK, WIDE, renamed(WIDE)), True)
        found = needless_rules(BLOCK, WIDE)
        self.assertEqual(found, tuple(at for at in range(12) if alike(BLOCK, WIDE, WIDE.without(at))))
        for at in range(12):
            events = parting(BLOCK, WIDE, WIDE.without(at))
            self.assertEqual(events is None, at in found)
            if events is not None:
                one, other = play(BLOCK, WIDE, events), play(BLOCK, WIDE.without(at), events)
                self.assertNotEqual((one.answered[-1], one.view), (other.answered[-1], other.view))

    def test_large_machines_by_chance(self):
        chance = random.Random(12)
        many = {}
        for number in range(60):
            machine = tame_machine(chance, BLOCK) + any_machine(chance, BLOCK, 7, 5, 10)
            other = machine.without(chance.randrange(len(machine)))
            fewest = fewest_apart(BLOCK, machine, other, ["spill"])
            events = parting(BLOCK, machine, other, ["spill"])
            self.assertEqual(events if fewest is None else len(events), fewest)
            many[fewest] = True
        self.assertGreater(len(many), 3)

    def test_needs_of_large_blocks(self):
        chance = random.Random(13)
        block = Block.read(str(BLOCK).replace("signal u none ^ ^ w x ^ y z", "signal u f w"))
        found = {}
        for number in range(40):
            machine = tame_machine(chance, block) + any_machine(chance, block, 7, 5, 4)
            without = ["dip", "spill"]
            for call, names, made, told in ((needed_fences, "stu", block.fencing, ("leak", "wrong")),
                                            (needed_keepers, "wxyz", block.keeping, ("blind", "leak", "lost", "wrong"))):
                wanted = fewest_names(names, made, machine, told, without)
                self.assertEqual(call(block, machine, without), wanted[0] if wanted else None)
                found[call.__name__, len(wanted)] = True
        self.assertEqual(len(found), 4)


class BenchTest(unittest.TestCase):
    def setUp(self):
        lines = [f"bit b{letter} {area} kept keeper start" for letter, area in zip("abcdefgh", "abcabcab")]
        lines += [f"signal s{at} {fence} ^ {five} | ba & bb ^ bc bd" for at, fence, five in
                  zip("abcdef", ["f", "g", "h", "i", "none", "f"], ["be", "bf", "bg", "bh", "ba", "bb"])]
        self.block = Block.read("\n".join(lines))
        chance = random.Random(14)
        self.machine = tame_machine(chance, self.block) + any_machine(chance, self.block, 15, 6, 10)

    def test_sixty_events(self):
        bench = Bench(self.block, self.machine)
        events = (events_of(self.block) * 8)[:60]
        self.assertEqual((len(self.block), len(self.block.fences), len(events)), (8, 4, 60))
        played = play(self.block, self.machine, events)
        results = bench.several(events)
        self.assertEqual(tuple(answered for answered, _ in results), played.answered)
        self.assertEqual((results[-1][1], bench.played.contents), (played.view, played.contents))
        bench.undo()
        self.assertEqual(tuple(bench.take(event) for event in events), results)
        self.assertEqual((len(bench), bench.events), (60, tuple(events)))

    def test_many_deeds_and_deep_trials(self):
        bench = Bench(self.block, self.machine)
        for _ in range(200):
            bench.follow(self.machine)

        def deeper(held):
            held.take("idle")
            return len(held) if len(held) == 250 else held.within(deeper)

        self.assertEqual(bench.within(deeper), 250)
        self.assertEqual(len(bench), 200)

    def test_long_commands(self):
        desk = Desk()
        text = str(self.block).replace("\n", " ; ")
        self.assertEqual(desk.say("block " + text), "8")
        machine = Machine("run", self.machine.rules[:12])
        text = str(machine).replace("\n", " ; ")
        self.assertLessEqual(len("machine " + text), 2000)
        self.assertEqual(desk.say("machine " + text), str(len(machine)))
        self.assertEqual(desk.bench.machine, machine)
        for event in (events_of(self.block) * 8)[:60]:
            desk.say("take " + event)
        played = play(self.block, machine, (events_of(self.block) * 8)[:60])
        self.assertEqual(desk.say("bits"), " ".join(played.contents.values()))
        self.assertEqual(desk.say("goals"), " ".join(goals(self.block, machine)))
        deeds = ["hold", "fence f", "fence g", "fence h", "fence i", "save a", "save b", "save c", "cut a", "cut b"]
        order = sleep_order(self.block, deeds)
        self.assertEqual(desk.say("sleep " + ", ".join(deeds)), "never" if order is None else str(order))
        words = " ".join(["spill"] * 330)
        self.assertEqual(desk.say("goals " + words), " ".join(goals(self.block, machine, ["spill"])))


if __name__ == "__main__":
    unittest.main()
