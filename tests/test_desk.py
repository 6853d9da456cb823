"""Promises 34 and 35: desks."""

import random
import unittest

from wakesafe.bench import Bench
from wakesafe.deciding import goals, least
from wakesafe.desk import Desk
from wakesafe.errors import InvalidBlock, InvalidCommand, InvalidEvent, InvalidGoal, InvalidOrder, InvalidText, Mismatch
from wakesafe.machines import Machine
from wakesafe.orders import sleep_order, wake_order
from wakesafe.runs import play
from tests.chance import any_block, any_machine, some_events, tame_machine
from tests.helper import BLOCK, Checks, GOALS, GOOD, HASTY, NO_GOALS, no_strings
from tests.oracle import events_of

KINDS = ["ask", "idle", "tick", "dip", "spill"]


def one_line(thing):
    """The text of a block or a machine, as it stands in a command."""
    return str(thing).replace("\n", " ; ")


def a_desk(block=BLOCK, machine=GOOD):
    desk = Desk()
    desk.say("block " + one_line(block))
    if machine is not None:
        desk.say("machine " + one_line(machine))
    return desk


class CommandsTest(Checks, unittest.TestCase):
    def test_examples(self):
        desk = Desk()
        self.assertEqual(desk.say("block bit x a kept keeper ; signal s f x"), "1")
        self.assertEqual(desk.say("machine first run ; run idle any -> off: hold, fence f, cut a"), "1")
        self.assertEqual((desk.say("take idle"), desk.say("bits")), ("- fenced", "unknown"))
        self.assertEqual(desk.say("goals dip spill"), "swallowed")
        self.assertEqual(desk.say("sleep hold, fence f, save a, cut a"), "fence f < cut a, hold < save a, save a < cut a")

    def test_block(self):
        desk = Desk()
        self.assertEqual(desk.say("block bit x a"), "1")
        self.assertEqual(desk.say("block " + one_line(BLOCK)), "2")
        self.assertEqual(desk.say("sleep hold, fence f, save a, cut a"), "fence f < cut a, hold < save a, save a < cut a")

    def test_a_new_block_has_no_machine(self):
        desk = a_desk()
        self.assertEqual(desk.say("block bit x a"), "1")
        self.assertIs(desk.bench, None)
        self.check_error(InvalidCommand, {}, desk.say, "bits")
        self.assertEqual(desk.say("machine first off"), "0")
        self.assertEqual(desk.say("bits"), "right")

    def test_machine(self):
        desk = Desk()
        self.assertIs(desk.bench, None)
        desk.say("block " + one_line(BLOCK))
        self.assertIs(desk.bench, None)
        self.assertEqual(desk.say("machine " + one_line(GOOD)), "5")
        self.assertIs(type(desk.bench), Bench)
        self.assertEqual((desk.bench.machine, desk.bench.block, desk.bench.events, len(desk.bench)), (GOOD, BLOCK, (), 0))
        bench = desk.bench
        desk.say("take idle")
        self.assertIs(desk.bench, bench)
        self.assertEqual(desk.say("machine first off"), "0")
        self.assertIsNot(desk.bench, bench)
        self.assertEqual((desk.bench.machine, desk.bench.events, len(desk.bench)), (Machine.read("first off"), (), 0))
        self.assertEqual((bench.events, desk.say("undo")), (("idle",), "nothing"))

    def test_take_and_bits(self):
        desk = a_desk()
        said = [desk.say("take " + event) for event in ("ask", "idle", "ask", "dip a", "tick", "spill b", "dip b")]
        self.assertEqual(said, ["answered clean", "- fenced", "- fenced", "- fenced", "answered clean", "- clean", "- unknown"])
        self.assertEqual(desk.say("bits"), "right unknown")
        self.assertEqual(desk.bench.events, ("ask", "idle", "ask", "dip a", "tick", "spill b", "dip b"))

    def test_views_of_several_signals_and_of_none(self):
        desk = Desk()
        desk.say("block bit x a kept keeper start ; bit y b ; signal s f x ; signal t none x ; signal u none y ; signal v none 1")
        desk.say("machine first run ; run ask any -> off: answer, hold, fence f, reset a, cut b")
        self.assertEqual((desk.say("take ask"), desk.say("bits")), ("answered fenced wrong unknown clean", "other unknown"))
        desk.say("block bit x a")
        desk.say("machine first run ; run ask any -> off: answer")
        self.assertEqual((desk.say("take ask"), desk.say("take idle"), desk.say("bits")), ("answered", "-", "right"))

    def test_goals(self):
        desk = a_desk()
        self.assertEqual((desk.say("goals dip spill"), desk.say("goals spill")), ("none", "blind leak lost"))
        self.assertEqual((desk.say("goals"), desk.say("goals")), ("blind leak lost", "blind leak lost"))
        self.assertEqual(desk.say("goals spill dip spill"), "none")
        for kind in KINDS:
            self.assertEqual(desk.say("goals " + kind), " ".join(goals(BLOCK, GOOD, [kind])) or "none")
        self.assertEqual(desk.say("goals " + " ".join(KINDS)), "none")

    def test_least(self):
        desk = a_desk(BLOCK, HASTY)
        for goal in GOALS:
            events = least(BLOCK, HASTY, goal)
            self.assertEqual(desk.say("least " + goal), "never" if events is None else ", ".join(events))
        self.assertEqual((desk.say("least blind"), desk.say("least stuck")), ("dip a", "never"))
        desk.say("machine first run ; run idle any -> off: hold ; off tick any -> nap: answer ; off spill a any -> run: reset b, go")
        self.assertEqual(desk.say("least hollow"), "never")
        desk.say("machine first run ; run spill b any -> off: hold ; off ask any -> off: answer")
        self.assertEqual(desk.say("least hollow"), "spill b, ask")

    def test_sleep_and_wake(self):
        desk = a_desk(BLOCK, None)
        for deeds in (["hold"], ["cut a", "save a", "hold", "fence f"], ["cut a", "hold"], ["cut b", "fence f", "hold"]):
            order = sleep_order(BLOCK, deeds)
            self.assertEqual(desk.say("sleep " + ", ".join(deeds)), "never" if order is None else str(order))
        for deeds in (["go"], ["go", "open f", "power a", "load a"], ["go", "power a"], ["power b", "reset b"], ["open f", "go"]):
            order = wake_order(BLOCK, deeds)
            self.assertEqual(desk.say("wake " + ", ".join(deeds)), "never" if order is None else str(order))
        self.assertEqual((desk.say("sleep hold"), desk.say("wake go, power a")), ("hold", "never"))
        self.assertEqual(desk.say("wake go, open f, power a, load a"), "load a < go, load a < open f, power a < load a")

    def test_undo(self):
        desk = a_desk()
        self.assertEqual(desk.say("undo"), "nothing")
        desk.say("take idle")
        self.assertEqual((desk.say("bits"), desk.say("undo"), desk.say("bits")), ("unknown right", "undone", "right right"))
        self.assertEqual((desk.say("undo"), desk.bench.events), ("nothing", ()))

    def test_what_is_done_on_the_bench_itself(self):
        desk = a_desk()
        desk.bench.machine = HASTY
        self.assertEqual((desk.say("goals dip spill"), desk.say("least lost")), ("lost wrong", ", ".join(least(BLOCK, HASTY, "lost"))))
        desk.bench.several(["idle", "dip b"])
        self.assertEqual((desk.say("bits"), desk.say("take ask")), ("unknown unknown", "- fenced"))
        self.assertEqual([desk.say("undo") for _ in range(4)], ["undone", "undone", "undone", "nothing"])
        self.assertEqual((desk.bench.machine, desk.say("goals dip spill")), (GOOD, "none"))

    def test_desks_by_themselves(self):
        first, second = a_desk(), a_desk()
        first.say("take idle")
        self.assertEqual((first.say("bits"), second.say("bits"), second.say("undo")), ("unknown right", "right right", "nothing"))

    def test_by_chance(self):
        chance = random.Random(34)
        for number in range(60):
            block = any_block(chance)
            machine = [any_machine, tame_machine][number % 2](chance, block)
            desk = a_desk(block, machine)
            events = some_events(chance, block)
            for at, event in enumerate(events):
                played = play(block, machine, events[:at + 1])
                answered = "answered" if played.answered[-1] else "-"
                self.assertEqual(desk.say("take " + event), " ".join([answered, *played.view]))
                self.assertEqual(desk.say("bits"), " ".join(played.contents.values()))
            without = chance.choice([[], ["dip"], ["dip", "spill"]])
            self.assertEqual(desk.say(" ".join(["goals", *without])), " ".join(goals(block, machine, without)) or "none")


class WrongCommandsTest(Checks, unittest.TestCase):
    def desks(self):
        return [Desk(), a_desk(BLOCK, None), a_desk()]

    def check_no_commands(self, *commands):
        for desk in self.desks():
            bench = desk.bench
            for command in commands:
                self.check_error(InvalidCommand, {}, desk.say, command)
            self.assertIs(desk.bench, bench)

    def test_no_strings(self):
        self.check_no_commands(*no_strings())

    def test_newlines_and_empty_words(self):
        self.check_no_commands("", " ", "  ", "\n", "bits ", " bits", "bits\n", "\nbits", "goals  dip", "goals dip ", "undo ",
                               "block bit x a\nbit y b", "block ", "block  bit x a", "block bit x a ", "block bit x a ;  ; bit y a",
                               "machine  first run", "machine first run\n", "take  ask", "take ask ", "least ", "sleep  hold",
                               "sleep hold,  cut a", "sleep ", "wake go ", "take idle\n", "goals dip\nspill", "sleep hold\n")

    def test_no_such_forms(self):
        self.check_no_commands("block", "machine", "take", "take dip a b", "take idle idle idle", "bits x", "bits bits", "goals x",
                               "goals dip x", "goals x dip", "goals dip a", "goals dips", "goals dip, spill", "goals none", "least",
                               "least blind blind", "least dip a", "sleep", "wake", "undo undo", "undo 1", "Bits", "BITS", "bit",
                               "blocks bit x a", "play", "hold", "ask", "take, ask", "undo.", "-", "1", ";", "goals;", "say bits",
                               "undone", "bench", "none", "never", "goal", "order hold", "help")

    def test_block_and_machine_that_are_not_there(self):
        desk = Desk()
        for command in ("machine first run", "machine x", "take ask", "take x", "bits", "goals", "goals dip", "least blind", "least x",
                        "sleep hold", "sleep x", "wake go", "undo"):
            self.check_error(InvalidCommand, {}, desk.say, command)
        desk.say("block bit x a")
        for command in ("take ask", "take x", "bits", "goals", "goals dip", "least blind", "least x", "undo"):
            self.check_error(InvalidCommand, {}, desk.say, command)
        self.assertEqual((desk.say("sleep hold"), desk.say("wake go"), desk.say("machine first run")), ("hold", "go", "0"))

    def check_nothing_changes(self, desk, kind, parts, command):
        bench = desk.bench
        stood = bench.machine, bench.events, len(bench), desk.say("bits"), desk.say("goals")
        self.check_error(kind, parts, desk.say, command)
        self.assertIs(desk.bench, bench)
        self.assertEqual((bench.machine, bench.events, len(bench), desk.say("bits"), desk.say("goals")), stood)

    def test_errors_of_texts(self):
        desk = a_desk()
        desk.say("take idle")
        for text, at in (("x", 0), ("bit x", 0), ("bit x a ; x", 1), ("bit x a ;", 0), ("; bit x a", 0), (";", 0), ("; ;", 0),
                         ("bit x a ; ; bit y a", 1), ("bit x a ; bit y a ; ;", 2), ("bit x a ; ; ; bit y a", 1),
                         ("bit x a;bit y a", 0), ("bit x a; bit y a", 0), ("signal s none x ; bit x a", 1)):
            self.check_nothing_changes(desk, InvalidText, {"at": at}, "block " + text)
        self.check_nothing_changes(desk, InvalidBlock, {"word": "name"}, "block bit x a ; bit x b")
        self.check_nothing_changes(desk, InvalidBlock, {"word": "formula"}, "block bit x a ; signal s none y")
        for text, at in (("x", 0), ("first", 0), ("first run ; x", 1), ("run ask any -> run", 0), ("first run ;", 0),
                         ("first run ; run ask any -> run ; ; x", 2)):
            self.check_nothing_changes(desk, InvalidText, {"at": at}, "machine " + text)
        self.check_nothing_changes(desk, Mismatch, {}, "machine first run ; run ask any -> run: cut c")
        self.check_nothing_changes(desk, Mismatch, {}, "machine first run ; run ask any -> run: open x")

    def test_newlines_are_put_from_left_to_right(self):
        desk = Desk()
        self.assertEqual(desk.say("block bit x a ; bit y a ; signal s none 1"), "2")
        self.check_error(InvalidText, {"at": 2}, desk.say, "block bit x a ; bit y a ; ; bit z a")
        self.check_error(InvalidText, {"at": 1}, desk.say, "block bit x a ; ; bit y a ; x")

    def test_errors_of_events_and_goals(self):
        desk = a_desk()
        for many in range(2):
            for event in ("x", "dip", "dip c", "spill x", "ask ask", "ask, idle", "dips a", "run ask"):
                self.check_nothing_changes(desk, InvalidEvent, {"at": many}, "take " + event)
            desk.say("take idle")
        for word in NO_GOALS + ["least", "goals", "blind,"]:
            if " " not in word and "\n" not in word and word:
                self.check_nothing_changes(desk, InvalidGoal, {}, "least " + word)

    def test_errors_of_deeds(self):
        desk = a_desk()
        for deeds in ("x", "hold,", "hold, x", ",", ", hold", "hold,cut a", "hold cut a", "hold, hold", "cut", "cut a b", "fence 1",
                      "go", "power a", "open f", "note", "answer", "forget", "reset a", "load a", "hold, go", "hold ; cut a"):
            self.check_nothing_changes(desk, InvalidOrder, {"word": "deeds"}, "sleep " + deeds)
        for deeds in ("x", "go,", "go, x", ",", "go,power a", "go, go", "power", "hold", "cut a", "fence f", "save a", "note", "reset a",
                      "load a", "power a, load b", "power b, reset a", "open 1"):
            self.check_nothing_changes(desk, InvalidOrder, {"word": "deeds"}, "wake " + deeds)
        for command in ("sleep cut c", "sleep fence g", "sleep hold, save c", "wake power c", "wake open g", "wake power c, load c"):
            self.check_nothing_changes(desk, Mismatch, {}, command)

    def test_all_events_of_the_block(self):
        desk = a_desk()
        for event in events_of(BLOCK):
            self.assertEqual(desk.say("take " + event).split(" ")[0], "answered" if event == "ask" else "-")
        self.assertEqual(desk.bench.events, ("ask", "idle", "tick", "dip a", "spill a", "dip b", "spill b"))


if __name__ == "__main__":
    unittest.main()
