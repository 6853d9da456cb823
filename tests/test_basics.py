"""Promises 1 and 2: what holds for all modules."""

import operator
import unittest

from wakesafe import deciding, needs, orders
from wakesafe.alike import alike, parting
from wakesafe.bench import Bench
from wakesafe.blocks import Bit, Block, Signal
from wakesafe.desk import Desk
from wakesafe.errors import InvalidBlock, InvalidFormula, InvalidMachine
from wakesafe.formulas import Formula
from wakesafe.machines import Machine, Rule
from wakesafe.orders import Order
from wakesafe.papers import paper, paper_holds
from wakesafe.runs import play
from tests import helper
from tests.helper import Checks, GOALS, GOOD, HASTY, LETTERS, NAMES, RESERVED, a_played, deep, no_names, objects

BLOCK = "bit x b kept keeper\nbit y a\nsignal s g & x y\nsignal t f x"
MACHINE = "first run\nrun ask any -> run: answer\nrun dip a calm -> off: hold, fence f"


class NamesTest(Checks, unittest.TestCase):
    def test_names(self):
        for name in NAMES + list(LETTERS) + [letter * 4 for letter in LETTERS]:
            self.assertEqual(Formula.of(name).names, (name,))
            self.assertEqual(Bit(name, name).area, name)
            self.assertEqual(Signal(name, Formula.of(name), name).fence, name)
            self.assertEqual(Machine(name).states, (name,))
            self.assertEqual(Rule(name, "dip " + name, "any", name, ["cut " + name]).event, "dip " + name)

    def test_values_that_are_no_names(self):
        self.assertEqual(len(RESERVED), 10)
        for value in no_names():
            self.check_error(InvalidFormula, {"word": "name"}, Formula.of, value)
            self.check_error(InvalidBlock, {"word": "name"}, Bit, value, "a")
            self.check_error(InvalidBlock, {"word": "name"}, Signal, value, Formula.of("x"))
            self.check_error(InvalidMachine, {"word": "first"}, Machine, value)
            self.check_error(InvalidMachine, {"word": "state"}, Rule, value, "ask", "any", "off")

    def test_reserved_words_behind_events_and_deeds(self):
        for word in RESERVED:
            for event in ("dip", "spill"):
                self.check_error(InvalidMachine, {"word": "event"}, Rule, "run", event + " " + word, "any", "off")
            for deed in ("fence", "open", "save", "load", "cut", "power", "reset"):
                given = [deed + " " + word]
                self.check_error(InvalidMachine, {"word": "deeds"}, Rule, "run", "ask", "any", "off", given)

    def test_bools_are_no_integers_and_integers_no_bools(self):
        for value in (0, 1):
            self.check_error(InvalidFormula, {"word": "value"}, Formula.always, value)
            self.check_error(InvalidBlock, {"word": "kept"}, Bit, "x", "a", value)
            self.check_error(InvalidBlock, {"word": "start"}, Bit, "x", "a", True, True, value)

    def test_deep_values(self):
        for value in (deep(8), (deep(7),), [[[[[[["x"]]]]]]]):
            self.check_error(InvalidFormula, {"word": "name"}, Formula.of, value)
            self.check_error(InvalidBlock, {"word": "bits"}, Block, value)
            self.check_error(InvalidMachine, {"word": "rules"}, Machine, "run", value)
            self.check_error(InvalidMachine, {"word": "deeds"}, Rule, "run", "ask", "any", "off", value)


class ObjectsTest(Checks, unittest.TestCase):
    def test_later_changes_to_arguments(self):
        bits = [Bit("x", "a"), Bit("y", "a")]
        signals = [Signal("s", Formula.of("x"), "f")]
        deeds = ["hold", "cut a"]
        rules = [Rule("run", "ask", "any", "off", deeds)]
        block, machine, rule = Block(bits, signals), Machine("run", rules), rules[0]
        texts = str(block), str(machine), str(rule)
        for given in (bits, signals, deeds, rules):
            given.reverse()
            given.append(given.pop(0))
            given.clear()
        self.assertEqual((str(block), str(machine), str(rule)), texts)
        self.assertEqual((len(block), len(block.signals), len(machine), rule.deeds), (2, 1, 1, ("hold", "cut a")))
        self.assertEqual((block.areas, block.fences, machine.states), (("a",), ("f",), ("off", "run")))

    def test_arguments_stay_as_they_are(self):
        formula = Formula.read("& x | y z")
        known = {"z": True, "x": False, "y": True, "w": False}
        part = {"x": True}
        given = {"x": Formula.of("y"), "w": Formula.of("z")}
        formula.value(known)
        formula.under(part)
        formula.put(given)
        self.assertEqual(list(known.items()), [("z", True), ("x", False), ("y", True), ("w", False)])
        self.assertEqual(part, {"x": True})
        self.assertEqual({name: str(given[name]) for name in given}, {"x": "y", "w": "z"})
        self.assertEqual(str(formula), "& x | y z")
        block = Block.read(BLOCK)
        names = ["x", "x"]
        block.keeping(names)
        self.assertEqual(names, ["x", "x"])
        self.assertEqual(str(block), BLOCK)

    def test_sequences_are_tuples(self):
        block, machine = Block.read(BLOCK), Machine.read(MACHINE)
        rule = Rule("run", "ask", "any", "off", ["hold"])
        formula = Formula.read("& x y")
        sequences = [block.bits, block.signals, block.areas, block.fences, machine.rules, machine.states, machine.areas,
                     machine.fences, rule.deeds, formula.names, formula.needs, Machine("run", []).rules,
                     Block([Bit("x", "a")], []).signals, Rule("run", "ask", "any", "off", []).deeds]
        for sequence in sequences:
            self.assertIs(type(sequence), tuple)

    def test_lists_and_tuples(self):
        bits, rules = [Bit("x", "a", True, True)], [Rule("run", "ask", "any", "off")]
        signals = [Signal("s", Formula.of("x"), "f")]
        self.assertEqual(Block(bits, signals), Block(tuple(bits), tuple(signals)))
        self.assertEqual(Block(bits).keeping([]), Block(bits).keeping(()))
        self.assertEqual(Block(bits, signals).fencing(["s"]), Block(bits, signals).fencing(("s",)))
        self.assertEqual(Machine("run", rules), Machine("run", tuple(rules)))
        self.assertEqual(Rule("run", "ask", "any", "off", ["go"]), Rule("run", "ask", "any", "off", ("go",)))

    def test_parameter_names(self):
        formula = Formula.of(name="x")
        self.assertEqual(str(Formula.always(value=True)), "1")
        self.assertEqual(str(Formula.read(text="~ x")), "~ x")
        self.assertIs(formula.value(known={"x": True}), True)
        self.assertIs(formula.under(known={}), None)
        self.assertIs(formula.depends(name="x"), True)
        self.assertEqual(str(formula.put(formulas={"x": Formula.of("y")})), "y")
        bit = Bit(start=True, keeper=False, kept=True, area="a", name="x")
        self.assertEqual(str(bit), "bit x a kept start")
        signal = Signal(fence="f", formula=formula, name="s")
        self.assertEqual(str(signal), "signal s f x")
        block = Block(signals=[signal], bits=[bit])
        self.assertEqual(str(Block.read(text=str(block))), str(block))
        self.assertEqual((block.bit(name="x"), block.signal(name="s")), (bit, signal))
        self.assertEqual((block.keeping(names=[]), block.fencing(names=["s"])), (block, block))
        rule = Rule(deeds=["go"], then="off", guard="any", event="ask", state="run")
        machine = Machine(rules=[rule], first="run")
        self.assertEqual(str(Machine.read(text=str(machine))), "first run\nrun ask any -> off: go")
        self.assertEqual(machine.without(at=0), Machine("run"))
        self.assertEqual(machine.rule_for(waits=False, event="ask", state="run"), 0)

    def test_equal_to_the_same_class_only(self):
        things = objects()
        for m, first in enumerate(things):
            self.check_alone(first)
            for n, second in enumerate(objects()):
                self.assertIs(first == second, m == n)
                self.assertIs(first != second, m != n)

    def test_not_iterable(self):
        for thing in objects() + [a_played()]:
            self.check_not_iterable(thing)
            with self.assertRaises(TypeError):
                first, second = thing

    def test_operators_leave_operands(self):
        p, q = Formula.of("x"), Formula.read("& x y")
        ~p, p & q, p | q, p ^ q, p <= q, p == q, p >= q
        self.assertEqual((str(p), str(q), p.names, q.names), ("x", "& x y", ("x",), ("x", "y")))

    def test_operators_in_place(self):
        for change, text in ((operator.iand, "& x y"), (operator.ior, "| x y"), (operator.ixor, "^ x y")):
            p = old = Formula.of("x")
            p = change(p, Formula.of("y"))
            self.assertEqual((str(p), str(old), old.names), (text, "x", ("x",)))
        block = old = Block.read("bit x a")
        block += Block.read("bit y a")
        self.assertEqual((str(block), str(old), len(old)), ("bit x a\nbit y a", "bit x a", 1))
        machine = old = Machine.read("first run")
        machine += Machine.read("first off\noff ask any -> off")
        self.assertEqual((str(machine), str(old), len(old)), ("first run\noff ask any -> off", "first run", 0))

    def test_same_call_twice(self):
        p = Formula.read("| & x y & x ~ y")
        block, machine = Block.read(BLOCK), Machine.read(MACHINE)
        for _ in range(3):
            self.assertEqual((p.needs, p.names, str(p), p.under({"x": False})), (("x",), ("x", "y"), "| & x y & x ~ y", False))
            self.assertIs(p.depends("y"), False)
            self.assertEqual((str(block), str(machine)), (BLOCK, MACHINE))
            self.assertEqual(str(block.keeping([])), BLOCK.replace(" keeper", ""))
            self.assertEqual(machine.rule_for("run", "dip a", False), 1)
            self.assertEqual(str(machine.without(1)), "\n".join(MACHINE.split("\n")[:2]))


class RunsTest(Checks, unittest.TestCase):
    """The same for runs, deciding, papers and orders."""

    def test_later_changes_to_arguments(self):
        events = ["idle", "dip b", "ask"]
        deeds, pairs = ["hold", "go", "cut a"], [("hold", "go")]
        played, order = play(helper.BLOCK, GOOD, events), Order(deeds, pairs)
        sleep = ["hold", "fence f", "save a", "cut a"]
        made = orders.sleep_order(helper.BLOCK, sleep)
        for given in (events, deeds, pairs, sleep):
            given.reverse()
            given.append(given[0])
            given.clear()
        self.assertEqual((played.rules, played.answered, played.state), ((1, None, 2), (False,) * 3, "wake"))
        self.assertEqual((str(order), order.deeds, order.many), ("hold < go, cut a", ("cut a", "go", "hold"), 3))
        self.assertEqual(str(made), "fence f < cut a, hold < save a, save a < cut a")

    def test_arguments_stay_as_they_are(self):
        events, without = ["idle", "ask", "tick"], ["spill", "dip b", "spill"]
        deeds, pairs = ["save a", "hold", "cut a", "fence f"], [("save a", "cut a"), ("hold", "cut a")]
        block, machine = str(helper.BLOCK), str(GOOD)
        play(helper.BLOCK, GOOD, events)
        for goal in GOALS:
            told = paper(helper.BLOCK, GOOD, goal, without)
            paper_holds(helper.BLOCK, GOOD, goal, told, without)
            deciding.least(helper.BLOCK, GOOD, goal, without)
            deciding.culprits(helper.BLOCK, GOOD, goal, without)
        deciding.goals(helper.BLOCK, GOOD, without)
        deciding.comes(helper.BLOCK, GOOD, 1, without)
        order = Order(deeds, pairs)
        self.assertTrue(order.holds(orders.sleep_order(helper.BLOCK, deeds).earliest))
        orders.sleep_safe(helper.BLOCK, deeds)
        order.holds(deeds)
        self.assertEqual((events, without), (["idle", "ask", "tick"], ["spill", "dip b", "spill"]))
        self.assertEqual(deeds, ["save a", "hold", "cut a", "fence f"])
        self.assertEqual(pairs, [("save a", "cut a"), ("hold", "cut a")])
        self.assertEqual((str(helper.BLOCK), str(GOOD)), (block, machine))

    def test_sequences_are_tuples(self):
        order, played = Order(["hold", "go"], [("hold", "go")]), a_played()
        told = paper(helper.BLOCK, GOOD, "lost", ["dip", "spill"])
        sequences = [order.deeds, order.pairs, order.links, order.earliest, Order([]).deeds, Order([]).pairs, played.powered,
                     played.raised, played.rules, played.answered, played.goals, played.view,
                     deciding.goals(helper.BLOCK, GOOD), deciding.goals(helper.BLOCK, GOOD, ["dip"]),
                     deciding.least(helper.BLOCK, GOOD, "lost"), deciding.culprits(helper.BLOCK, GOOD, "lost"),
                     deciding.culprits(helper.BLOCK, GOOD, "stuck"), told]
        sequences += [*told, *[pair[1] for pair in told], *[standing for pair in told for standing in pair[1]]]
        sequences += [*order.pairs, *order.links, *deciding.culprits(helper.BLOCK, GOOD, "leak")]
        for sequence in sequences:
            self.assertIs(type(sequence), tuple)

    def test_lists_and_tuples(self):
        block = helper.BLOCK
        for without in (["dip", "spill"], ("dip", "spill")):
            self.assertEqual(deciding.goals(block, GOOD, without), ())
            self.assertIs(deciding.happens(block, HASTY, "lost", without), True)
            self.assertEqual(deciding.least(block, HASTY, "lost", without), ("idle", "ask", "tick"))
            self.assertEqual(deciding.culprits(block, HASTY, "lost", without), ("x",))
            self.assertIs(deciding.comes(block, HASTY, 4, without), True)
            self.assertIs(paper_holds(block, GOOD, "lost", paper(block, GOOD, "lost", without), without), True)
        self.assertEqual(Order(["hold", "go"], [("hold", "go")]), Order(("hold", "go"), (("hold", "go"),)))
        for call, deeds in ((orders.sleep_order, ["hold", "cut b"]), (orders.wake_order, ["power a", "go"]),
                            (orders.sleep_safe, ["hold", "cut b"]), (orders.wake_safe, ["power b", "go"])):
            self.assertEqual(call(block, deeds), call(block, tuple(deeds)))

    def test_parameter_names(self):
        given = {"block": helper.BLOCK, "machine": HASTY}
        aside = {**given, "without": ["dip", "spill"]}
        self.assertEqual(play(events=["idle"], **given).state, "off")
        self.assertEqual(deciding.goals(**aside), ("lost", "wrong"))
        self.assertIs(deciding.happens(goal="lost", **aside), True)
        self.assertEqual(deciding.least(goal="lost", **aside), ("idle", "ask", "tick"))
        self.assertIs(deciding.comes(at=0, **aside), True)
        self.assertEqual(deciding.culprits(goal="lost", **aside), ("x",))
        self.assertIs(paper(goal="lost", **aside), None)
        told = paper(goal="stuck", **given)
        self.assertIs(paper_holds(goal="stuck", value=told, **aside), True)
        order = Order(pairs=[("hold", "go")], deeds=["go", "hold"])
        self.assertIs(order.holds(value=["hold", "go"]), True)
        self.assertEqual(str(order.without(deed="go")), "hold")
        self.assertEqual(Order.read(text="hold < go"), order)
        self.assertIs(orders.sleep_safe(deeds=["hold", "cut b"], block=Block.read("bit x b")), True)
        self.assertEqual(str(orders.sleep_order(deeds=["hold", "cut b"], block=Block.read("bit x b"))), "hold < cut b")
        self.assertIs(orders.wake_safe(deeds=["power b", "go"], block=Block.read("bit x b")), False)
        self.assertIs(orders.wake_order(deeds=["power b", "go"], block=Block.read("bit x b")), None)

    def test_operators_leave_operands(self):
        p, q = Order.read("hold < go, note"), Order.read("go < note, hold")
        ~p, p & q, p | q, p <= q, p == q, p >= q
        self.assertEqual((str(p), str(q), p.pairs, q.many), ("hold < go, note", "go < note, hold", (("hold", "go"),), 3))

    def test_same_call_twice(self):
        calls = [lambda: deciding.goals(helper.BLOCK, GOOD), lambda: paper(helper.BLOCK, GOOD, "leak", ["dip"]),
                 lambda: deciding.least(helper.BLOCK, GOOD, "leak"), lambda: deciding.culprits(helper.BLOCK, GOOD, "leak"),
                 lambda: play(helper.BLOCK, HASTY, ["idle", "ask", "tick"]).contents, lambda: a_played().keepers,
                 lambda: orders.wake_order(helper.BLOCK, ["power a", "load a", "go"]),
                 lambda: deciding.comes(helper.BLOCK, GOOD, 3, ["tick"])]
        first = [call() for call in calls]
        self.assertEqual([call() for call in calls[::-1]][::-1], first)
        self.assertEqual([call() for call in calls], first)


class LastTest(Checks, unittest.TestCase):
    """The same for needs, alike, benches and desks."""

    def test_later_changes_to_arguments(self):
        bench, events = Bench(helper.BLOCK, GOOD), ["idle", "ask"]
        results = bench.several(events)
        events.reverse()
        events.append("tick")
        self.assertEqual((bench.events, bench.played.state, len(results)), (("idle", "ask"), "wake", 2))

    def test_arguments_stay_as_they_are(self):
        without, events = ["spill", "dip", "dip b", "spill"], ["idle", "ask", "tick"]
        texts = [str(thing) for thing in (helper.BLOCK, GOOD, HASTY)]
        needs.needed_fences(helper.BLOCK, GOOD, without)
        needs.needed_keepers(helper.BLOCK, GOOD, without)
        needs.needless_rules(helper.BLOCK, GOOD, without)
        parting(helper.BLOCK, GOOD, HASTY, without)
        alike(helper.BLOCK, GOOD, HASTY, without)
        Bench(helper.BLOCK, GOOD).several(events)
        self.assertEqual((without, events), (["spill", "dip", "dip b", "spill"], ["idle", "ask", "tick"]))
        self.assertEqual([str(thing) for thing in (helper.BLOCK, GOOD, HASTY)], texts)

    def test_sequences_are_tuples(self):
        block, without = helper.BLOCK, ["dip", "spill"]
        bench = Bench(block, GOOD)
        sequences = [needs.needed_fences(block, GOOD, without), needs.needed_fences(block, Machine("run"), without),
                     needs.needed_keepers(block, GOOD, without), needs.needed_keepers(block, Machine("run"), without),
                     needs.needless_rules(block, GOOD), needs.needless_rules(block, Machine("run")),
                     parting(block, GOOD, Machine("run")), bench.events, *bench.take("ask")[1:], bench.take("ask"),
                     bench.several(["ask"]), bench.several([]), *bench.several(["ask"]), bench.events]
        for sequence in sequences:
            self.assertIs(type(sequence), tuple)

    def test_lists_and_tuples(self):
        block = helper.BLOCK
        for without in (["dip", "spill"], ("dip", "spill")):
            self.assertEqual(needs.needed_fences(block, GOOD, without), ("s",))
            self.assertEqual(needs.needed_keepers(block, GOOD, without), ("x",))
            self.assertEqual(needs.needless_rules(block, GOOD, without), (3,))
            self.assertIs(alike(block, GOOD, HASTY, without), True)
            self.assertEqual(parting(block, GOOD, Machine("run"), without), ("ask",))
        for events in (["idle", "ask"], ("idle", "ask")):
            self.assertEqual(Bench(block, GOOD).several(events), ((False, ("fenced",)), (False, ("fenced",))))

    def test_bools_are_bools(self):
        bench = Bench(helper.BLOCK, GOOD)
        for value in (bench.undo(), bench.take("ask")[0], bench.undo(), alike(helper.BLOCK, GOOD, HASTY),
                      alike(helper.BLOCK, GOOD, GOOD)):
            self.assertIs(type(value), bool)

    def test_parameter_names(self):
        block, aside = helper.BLOCK, ["dip", "spill"]
        for call, wanted in ((needs.needed_fences, ("s",)), (needs.needed_keepers, ("x",)), (needs.needless_rules, (3,))):
            self.assertEqual(call(without=aside, machine=GOOD, block=block), wanted)
        self.assertIs(alike(without=aside, q=HASTY, p=GOOD, block=block), True)
        self.assertEqual(parting(without=aside, q=Machine("run"), p=GOOD, block=block), ("ask",))
        bench = Bench(machine=GOOD, block=block)
        self.assertEqual(bench.take(event="idle"), (False, ("fenced",)))
        self.assertEqual(bench.several(events=["ask"]), ((False, ("fenced",)),))
        self.assertIs(bench.follow(machine=HASTY), None)
        self.assertEqual(bench.within(work=len), 3)
        self.assertEqual(Desk().say(command="block bit x a"), "1")

    def test_not_iterable(self):
        desk = Desk()
        desk.say("block bit x a")
        desk.say("machine first run")
        for thing in (Bench(helper.BLOCK, GOOD), desk.bench, desk, Desk(), desk.bench.trial()):
            self.check_not_iterable(thing)

    def test_same_call_twice(self):
        block, bench = helper.BLOCK, Bench(helper.BLOCK, GOOD)
        bench.several(["idle", "ask"])
        desk = Desk()
        for command in ("block bit x a kept", "machine first run ; run idle any -> off: hold, cut a", "take idle"):
            desk.say(command)
        calls = [lambda: needs.needed_fences(block, GOOD), lambda: needs.needed_keepers(block, GOOD, ["dip", "spill"]),
                 lambda: needs.needless_rules(block, GOOD), lambda: parting(block, GOOD, HASTY),
                 lambda: parting(block, GOOD, GOOD.without(4)), lambda: bench.events, lambda: bench.machine,
                 lambda: bench.played.contents, lambda: bench.within(lambda held: held.take("tick")), lambda: len(bench),
                 lambda: desk.say("goals"), lambda: desk.say("bits"), lambda: desk.say("least lost"),
                 lambda: desk.say("sleep hold, cut a")]
        first = [call() for call in calls]
        self.assertEqual([call() for call in calls[::-1]][::-1], first)
        self.assertEqual([call() for call in calls], first)


if __name__ == "__main__":
    unittest.main()
