"""Promises 11 to 13: machines."""

import itertools
import operator
import unittest

from wakesafe.errors import InvalidMachine, InvalidText, NoRule
from wakesafe.machines import Machine, Rule
from tests.helper import Checks, NAMES, RESERVED, no_names, no_strings, objects

PLAIN_EVENTS = ["ask", "idle", "tick"]
AREA_EVENTS = ["dip", "spill"]
PLAIN_DEEDS = ["hold", "go", "note", "answer", "forget"]
NAMED_DEEDS = ["fence", "open", "save", "load", "cut", "power", "reset"]
EVENTS = PLAIN_EVENTS + ["dip a", "spill a", "dip abcd", "spill cut", "dip open"]
DEEDS = [deed for deed in PLAIN_DEEDS if deed != "note"] + [word + name for word in NAMED_DEEDS for name in (" a", " wxyz")]
NO_EVENTS = ["", " ", "dip", "spill", "dip ", "spill ", " ask", "ask ", "ask a", "idle a", "tick a", "dip  a", "dip a ",
             " dip a", "dip a b", "dip any", "spill none", "dip abcde", "dip A", "Ask", "asks", "any", "fence a", "cut a",
             "hold", "dip\na", "dip 1", "spills a", "a", "dip a\n", "dipa"]
NO_DEEDS = ["", " ", "fence", "open", "save", "load", "cut", "power", "reset", "fence ", "save ", " hold", "hold ", "hold a",
            "go a", "note a", "answer a", "forget a", "fence  f", "fence f ", "fence f g", "fence any", "open none",
            "save go", "cut abcde", "power A", "Hold", "holds", "dip a", "spill a", "ask", "idle", "close f", "run",
            "hold, go", "reset 1", "cut\na", "savea"]
GUARDS = ["any", "waits", "calm"]
MACHINE = "first run\nrun ask any -> run: answer\nrun idle calm -> off: hold, fence f, save a, cut a\n" \
          "off ask any -> wake: note, power a\nwake ask any -> wake: note\n" \
          "wake tick any -> run: load a, open f, go, answer\nbad dip b waits -> off"


class RuleTest(Checks, unittest.TestCase):
    def test_attributes(self):
        rule = Rule("run", "idle", "calm", "off", ["hold", "cut a"])
        self.assertEqual((rule.state, rule.event, rule.guard, rule.then), ("run", "idle", "calm", "off"))
        self.assertEqual(rule.deeds, ("hold", "cut a"))
        self.assertEqual(Rule("run", "ask", "any", "off").deeds, ())

    def test_str(self):
        self.assertEqual(str(Rule("run", "idle", "calm", "off", ["hold", "cut a"])), "run idle calm -> off: hold, cut a")
        self.assertEqual(str(Rule("run", "dip a", "any", "run")), "run dip a any -> run")
        self.assertEqual(str(Rule("run", "spill b", "waits", "off", ("go",))), "run spill b waits -> off: go")
        self.assertEqual(str(Rule("run", "ask", "any", "run", [])), "run ask any -> run")

    def test_events_and_guards(self):
        for event, guard in itertools.product(EVENTS, GUARDS):
            rule = Rule("run", event, guard, "off")
            self.assertEqual((rule.event, rule.guard), (event, guard))
            self.assertEqual(str(rule), "run " + event + " " + guard + " -> off")

    def test_names(self):
        for name in NAMES:
            rule = Rule(name, "ask", "any", name)
            self.assertEqual((rule.state, rule.then), (name, name))

    def test_deeds(self):
        for event in EVENTS:
            for deed in DEEDS:
                self.assertEqual(Rule("run", event, "any", "off", [deed]).deeds, (deed,))
            self.assertEqual(Rule("run", event, "any", "off", DEEDS + DEEDS).deeds, tuple(DEEDS + DEEDS))

    def test_note_only_if_the_event_is_ask(self):
        self.assertEqual(Rule("run", "ask", "calm", "off", ["hold", "note", "note"]).deeds, ("hold", "note", "note"))
        for event in EVENTS:
            if event != "ask":
                self.check_error(InvalidMachine, {"word": "deeds"}, Rule, "run", event, "any", "off", ["note"])
                self.check_error(InvalidMachine, {"word": "deeds"}, Rule, "run", event, "any", "off", ["hold", "note"])

    def test_wrong_states(self):
        for value in no_names():
            self.check_error(InvalidMachine, {"word": "state"}, Rule, value, "ask", "any", "off")
            self.check_error(InvalidMachine, {"word": "then"}, Rule, "run", "ask", "any", value)

    def test_wrong_events(self):
        for value in NO_EVENTS + no_strings():
            self.check_error(InvalidMachine, {"word": "event"}, Rule, "run", value, "any", "off")

    def test_wrong_guards(self):
        for value in no_strings() + ["", "Any", "none", "wait", "calm ", "any calm", "run", "ask"]:
            self.check_error(InvalidMachine, {"word": "guard"}, Rule, "run", "ask", value, "off")

    def test_wrong_deeds(self):
        for value in NO_DEEDS + no_strings():
            self.check_error(InvalidMachine, {"word": "deeds"}, Rule, "run", "ask", "any", "off", [value])
            self.check_error(InvalidMachine, {"word": "deeds"}, Rule, "run", "ask", "any", "off", ("hold", value, "go"))
            if value != [] and value != ():
                self.check_error(InvalidMachine, {"word": "deeds"}, Rule, "run", "ask", "any", "off", value)
        for value in DEEDS + ["note"]:
            self.check_error(InvalidMachine, {"word": "deeds"}, Rule, "run", "ask", "any", "off", value)

    def test_order_of_errors(self):
        self.check_error(InvalidMachine, {"word": "state"}, Rule, "go", "go", "go", "go", "go")
        self.check_error(InvalidMachine, {"word": "event"}, Rule, "run", "go", "go", "go", "go")
        self.check_error(InvalidMachine, {"word": "guard"}, Rule, "run", "ask", "go", "go", "go")
        self.check_error(InvalidMachine, {"word": "then"}, Rule, "run", "ask", "any", "go", "go")
        self.check_error(InvalidMachine, {"word": "event"}, Rule, "run", "dip", "any", "off", ["note"])
        self.check_error(InvalidMachine, {"word": "then"}, Rule, "run", "idle", "any", "go", ["note"])

    def test_equal_if_texts_are(self):
        given = list(itertools.product(["run", "off"], ["ask", "dip a", "dip b"], ["any", "calm"], ["run"],
                                       [(), ("hold",), ("hold", "go"), ("go", "hold"), ("cut a",), ("cut b",)]))
        for first, second in itertools.product(given, given):
            self.assertIs(Rule(*first) == Rule(*second), first == second)
            self.assertIs(Rule(*first) != Rule(*second), first != second)
        self.assertNotEqual(Rule("run", "ask", "any", "run"), Rule("run", "ask", "any", "off"))
        self.check_alone(Rule("run", "ask", "any", "run", ["hold"]))


class MachineTest(Checks, unittest.TestCase):
    def setUp(self):
        self.machine = Machine.read(MACHINE)
        self.rules = [Rule("run", "ask", "any", "run", ["answer"]), Rule("up", "dip c", "calm", "off", ["save a", "open g"]),
                      Rule("run", "spill b", "waits", "run")]

    def test_attributes(self):
        machine = Machine("g", self.rules)
        self.assertEqual((machine.first, machine.rules), ("g", tuple(self.rules)))
        self.assertEqual(machine.states, ("g", "off", "run", "up"))
        self.assertEqual((machine.areas, machine.fences), (("a", "b", "c"), ("g",)))
        bare = Machine("run")
        self.assertEqual((bare.first, bare.rules, bare.states, bare.areas, bare.fences), ("run", (), ("run",), (), ()))
        self.assertEqual(Machine("run", tuple(self.rules)), Machine("run", self.rules))

    def test_areas_and_fences(self):
        for word in ["save", "load", "cut", "power", "reset"]:
            machine = Machine("run", [Rule("run", "ask", "any", "run", ["hold", word + " b", word + " a"])])
            self.assertEqual((machine.areas, machine.fences), (("a", "b"), ()))
        for word in ["fence", "open"]:
            machine = Machine("run", [Rule("run", "ask", "any", "run", [word + " b", "go", word + " a"])])
            self.assertEqual((machine.areas, machine.fences), ((), ("a", "b")))
        for word in ["dip", "spill"]:
            machine = Machine("run", [Rule("run", word + " z", "any", "run")])
            self.assertEqual((machine.areas, machine.fences), (("z",), ()))
        machine = Machine("run", [Rule("run", "ask", "any", "run", ["hold", "go", "note", "answer", "forget"])])
        self.assertEqual((machine.areas, machine.fences), ((), ()))

    def test_wrong_arguments(self):
        for value in no_names():
            self.check_error(InvalidMachine, {"word": "first"}, Machine, value)
            self.check_error(InvalidMachine, {"word": "first"}, Machine, value, 7)
        for value in no_names() + NAMES + [self.rules + [None], [self.rules], [str(self.rules[0])], *objects()]:
            if value != [] and value != ():
                self.check_error(InvalidMachine, {"word": "rules"}, Machine, "run", value)

    def test_len(self):
        self.assertEqual((len(self.machine), len(Machine("run")), len(Machine("run", self.rules))), (6, 0, 3))

    def test_index(self):
        machine = Machine("run", self.rules)
        for at, rule in enumerate(self.rules):
            self.assertIs(type(machine[at]), Rule)
            self.assertEqual(machine[at], rule)

    def test_without(self):
        machine = Machine("g", self.rules)
        for at in range(3):
            less = machine.without(at)
            self.assertIs(type(less), Machine)
            self.assertEqual((less.first, less.rules), ("g", tuple(self.rules[:at] + self.rules[at + 1:])))
        self.assertEqual(len(machine), 3)
        self.assertEqual(machine.without(1).states, ("g", "run"))
        self.assertEqual(str(Machine("run", self.rules[:1]).without(0)), "first run")

    def test_no_rule(self):
        for machine, wrong in ((Machine("run", self.rules), [3, 4, 10 ** 30]), (Machine("run"), [0, 1])):
            for at in wrong + [-1, -2, -3, -4, -10 ** 30]:
                self.check_error(NoRule, {"at": at}, operator.getitem, machine, at)
                self.check_error(NoRule, {"at": at}, machine.without, at)

    def test_rule_for(self):
        rules = [Rule("run", "ask", "waits", "run"), Rule("run", "ask", "any", "off"), Rule("run", "ask", "calm", "up"),
                 Rule("off", "idle", "calm", "up"), Rule("off", "idle", "waits", "off"), Rule("run", "dip a", "any", "up"),
                 Rule("run", "dip b", "waits", "up"), Rule("off", "idle", "any", "up"), Rule("up", "tick", "calm", "up")]
        machine = Machine("run", rules)
        expected = [("run", "ask", True, 0), ("run", "ask", False, 1), ("off", "idle", False, 3), ("off", "idle", True, 4),
                    ("run", "dip a", False, 5), ("run", "dip a", True, 5), ("run", "dip b", True, 6),
                    ("run", "dip b", False, None), ("run", "dip c", True, None), ("run", "spill a", True, None),
                    ("off", "ask", False, None), ("zz", "ask", True, None), ("up", "tick", False, 8),
                    ("up", "tick", True, None), ("run", "tick", False, None)]
        for state, event, waits, at in expected:
            self.assertEqual(machine.rule_for(state, event, waits), at, (state, event, waits))
            self.assertIs(type(machine.rule_for(state, event, waits)), type(at))
        self.assertIs(Machine("run").rule_for("run", "ask", False), None)

    def test_plus(self):
        p, q = Machine("run", self.rules[:2]), Machine("off", self.rules[1:])
        both = p + q
        self.assertIs(type(both), Machine)
        self.assertEqual((both.first, both.rules), ("run", p.rules + q.rules))
        self.assertEqual((q + p).first, "off")
        self.assertEqual(both.states, ("off", "run", "up"))
        self.assertEqual((Machine("zz") + q).states, ("off", "run", "up", "zz"))
        self.assertEqual((p + Machine("zz")), p)
        self.check_operands(p, [operator.add])
        self.check_operands(Machine("run"), [operator.add])

    def test_equal_if_texts_are(self):
        machines = [self.machine, Machine("run"), Machine("off"), Machine("run", self.rules), Machine("off", self.rules),
                    Machine("run", self.rules[::-1]), Machine("run", self.rules[:2]), Machine("run", self.rules + self.rules)]
        for (m, p), (n, q) in itertools.product(enumerate(machines), enumerate(machines)):
            self.assertIs(p == q, m == n)
            self.assertIs(p != q, m != n)
            self.assertTrue(p == Machine.read(str(p)))
        self.check_alone(self.machine)

    def test_iteration(self):
        self.check_not_iterable(self.machine)
        self.check_not_iterable(Machine("run"))


class TextTest(Checks, unittest.TestCase):
    def test_str(self):
        rules = [Rule("run", "idle", "calm", "off", ["hold", "cut a"]), Rule("off", "dip a", "any", "off")]
        self.assertEqual(str(Machine("run", rules)), "first run\nrun idle calm -> off: hold, cut a\noff dip a any -> off")
        self.assertEqual(str(Machine("up")), "first up")

    def test_read(self):
        for text in [MACHINE, "first run", "first off\noff spill cut any -> cut: open open, cut cut"]:
            machine = Machine.read(text)
            self.assertIs(type(machine), Machine)
            self.assertEqual(str(machine), text)
        machine = Machine.read(MACHINE)
        self.assertEqual((machine.first, len(machine)), ("run", 6))
        self.assertEqual(machine.states, ("bad", "off", "run", "wake"))
        self.assertEqual((machine.areas, machine.fences), (("a", "b"), ("f",)))
        self.assertEqual(machine[1], Rule("run", "idle", "calm", "off", ["hold", "fence f", "save a", "cut a"]))
        self.assertEqual(machine[5], Rule("bad", "dip b", "waits", "off"))

    def test_wrong_first_line(self):
        lines = ["", " ", "first", "first ", "first  run", " first run", "first run ", "first run off", "First run", "run",
                 "first Run", "first abcde", "first: run", "run ask any -> run", "first\trun"]
        for line in lines + ["first " + word for word in RESERVED]:
            self.check_error(InvalidText, {"at": 0}, Machine.read, line)
            self.check_error(InvalidText, {"at": 0}, Machine.read, line + "\nrubbish")
            self.check_error(InvalidText, {"at": 0}, Machine.read, line + "\nrun ask any -> run")
        self.check_error(InvalidText, {"at": 0}, Machine.read, "\nfirst run")

    def test_wrong_rule_line(self):
        lines = ["", " ", "run", "first run", "run ask any", "run ask any ->", "run ask any -> ", "run ask -> off",
                 "ask any -> off", " run ask any -> off", "run  ask any -> off", "run ask any  -> off",
                 "run ask any ->  off", "run ask any -> off ", "run ask any -> off:", "run ask any -> off: ",
                 "run ask any -> off : hold", "run ask any -> off:hold", "run ask any -> off:  hold",
                 "run ask any -> off: hold,", "run ask any -> off: hold, ", "run ask any -> off: hold,go",
                 "run ask any -> off: hold ,go", "run ask any -> off: hold,  go", "run ask any -> off: hold go",
                 "run ask any -> off: , hold", "run ask any -> off, hold", "run ask any -> off hold",
                 "run ask any-> off", "run ask any ->off", "run ask any => off", "run ask any off", "run ask any -> off: run",
                 "run dip any -> off", "run dip  any -> off", "run dip a b any -> off", "run ask a any -> off",
                 "run dip any any -> off", "run ask none -> off", "run ask -> off -> on", "run ask any -> off -> on",
                 "run ask any -> off: hold -> on", "run ask any -> off: hold: go", "run ask any -> off: note: go",
                 "run idle any -> off: note", "run tick calm -> off: hold, note", "run ask any -> off: cut",
                 "run ask any -> off: cut a b", "Run ask any -> off", "run ask any -> Off", "run Ask any -> off",
                 "run ask any -> off: fence any", "go ask any -> off", "run ask any -> go", "run ask waits calm -> off",
                 "run ask any -> off: hold;", "run any ask -> off", "run: ask any -> off"]
        for line in lines:
            self.check_error(InvalidText, {"at": 1}, Machine.read, "first run\n" + line)
            self.check_error(InvalidText, {"at": 2}, Machine.read, "first run\nrun ask any -> run\n" + line + "\n\n")

    def test_newline_at_the_end(self):
        self.check_error(InvalidText, {"at": 1}, Machine.read, "first run\n")
        self.check_error(InvalidText, {"at": 2}, Machine.read, "first run\nrun ask any -> run: note\n")


if __name__ == "__main__":
    unittest.main()
