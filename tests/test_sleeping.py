"""Promises 26 to 28: sleeping and waking."""

import itertools
import random
import unittest

from wakesafe.blocks import Block
from wakesafe.errors import InvalidOrder, Mismatch
from wakesafe.orders import Order, sleep_order, sleep_safe, wake_order, wake_safe
from tests.chance import any_block
from tests.helper import BLOCK, Checks, no_names, no_strings
from tests.oracle import World

HARM = {"blind", "leak", "lost", "wrong"}
SLEEP = (sleep_safe, sleep_order)
WAKE = (wake_safe, wake_order)


def slept_well(block, deeds):
    """Whether a sleep is safe, deed by deed."""
    world = World(block, None)
    for deed in deeds:
        world.do(deed)
    kept = [bit for bit in block.bits if bit.kept and not world.powered[bit.area]]
    return not world.goals & HARM and all(world.keepers.get(bit.name) == "right" for bit in kept)


def woke_well(block, deeds):
    """Whether a waking is safe, deed by deed."""
    world = World(block, None)
    world.going = False
    world.raised = {fence: True for fence in world.raised}
    for bit in block.bits:
        is_off = "power " + bit.area in deeds
        world.powered[bit.area] = not is_off
        world.contents[bit.name] = "unknown" if is_off else "right"
        if bit.keeper:
            world.keepers[bit.name] = "right" if is_off else "unknown"
    world.judge()
    for deed in deeds:
        world.do(deed)
    return not world.goals & HARM


def sleep_deeds(chance, block, often=0.85):
    """Some deeds of a sleep."""
    deeds = ["hold", *["fence " + fence for fence in block.fences]]
    deeds += [word + " " + area for word in ("save", "cut") for area in block.areas]
    return [deed for deed in chance.sample(deeds, len(deeds)) if chance.random() < often]


def wake_deeds(chance, block, often=0.85):
    """Some deeds of a waking."""
    deeds = ["go", *["open " + fence for fence in block.fences]]
    deeds += [word + " " + area for word in ("power", "load", "reset") for area in block.areas]
    some = [deed for deed in chance.sample(deeds, len(deeds)) if chance.random() < often]
    return [deed for deed in some if deed.split(" ")[0] not in ("load", "reset") or "power " + deed.split(" ")[1] in some]


class SleepTest(Checks, unittest.TestCase):
    def test_examples(self):
        self.assertEqual(str(sleep_order(BLOCK, ["cut a", "save a", "hold", "fence f"])),
                         "fence f < cut a, hold < save a, save a < cut a")
        self.assertIsNone(sleep_order(BLOCK, ["cut a", "hold", "fence f"]))

    def test_safe(self):
        self.assertIs(sleep_safe(BLOCK, ["hold", "fence f", "save a", "cut a"]), True)
        self.assertIs(sleep_safe(BLOCK, ("hold", "save a", "fence f", "cut a")), True)
        self.assertIs(sleep_safe(BLOCK, []), True)
        self.assertIs(sleep_safe(BLOCK, ["save a", "fence f", "hold"]), True)
        self.assertIs(sleep_safe(BLOCK, ["fence f", "hold", "cut b"]), True)
        for deeds in (["save a", "hold", "fence f", "cut a"], ["hold", "fence f", "cut a", "save a"], ["hold", "fence f", "cut a"],
                      ["hold", "save a", "cut a", "fence f"], ["fence f", "save a", "cut a", "hold"], ["fence f", "cut b"],
                      ["hold", "cut b"], ["fence f", "save a", "cut a"]):
            self.assertIs(sleep_safe(BLOCK, deeds), False, deeds)

    def test_each_bit_and_signal(self):
        deeds = ["hold", "fence f", "save a", "cut a"]
        for text, order in (("bit x a", "fence f, hold < cut a, save a"),
                            ("bit x a kept keeper", "fence f, hold < save a, save a < cut a"),
                            ("bit x a kept", None), ("bit x a\nsignal s none x", None), ("bit x b\nbit y a\nsignal s none x", True),
                            ("bit x a kept keeper\nbit y a kept", None), ("bit x a kept keeper\nbit y b kept", True),
                            ("bit x a\nsignal s none ^ x x", True)):
            block = Block.read(text + "\nsignal z f 1")
            found = sleep_order(block, deeds)
            if order is None:
                self.assertIsNone(found, text)
            elif order is True:
                self.assertIs(type(found), Order, text)
            else:
                self.assertEqual(sorted(str(found).split(", ")), sorted(order.split(", ")), text)

    def test_every_sequence(self):
        safe = 0
        for seed in range(200):
            chance = random.Random(seed)
            block = any_block(chance)
            deeds = sleep_deeds(chance, block)[:6]
            order = sleep_order(block, deeds)
            for line in itertools.permutations(deeds):
                self.assertIs(sleep_safe(block, line), slept_well(block, line), (str(block), line))
                self.assertIs(order is not None and order.holds(line), slept_well(block, line), (str(block), line))
            safe += order is not None
        self.assertGreater(safe, 50)

    def test_longer_sequences(self):
        for seed in range(400):
            chance = random.Random(seed)
            block = any_block(chance, 6, "abc", 4, "fgh")
            deeds = sleep_deeds(chance, block, 0.95)
            order = sleep_order(block, deeds)
            lines = [chance.sample(deeds, len(deeds)) for _ in range(3)]
            for line in lines if order is None else [*lines, order.earliest]:
                self.assertIs(sleep_safe(block, line), slept_well(block, line), (str(block), line))
                self.assertIs(order is not None and order.holds(line), slept_well(block, line), (str(block), line))

    def test_order_has_all_deeds(self):
        order = sleep_order(BLOCK, ["hold", "save b", "save a"])
        self.assertEqual((order.deeds, order.pairs), (("hold", "save a", "save b"), ()))
        self.assertEqual(str(sleep_order(BLOCK, [])), "-")

    def test_wrong_deeds(self):
        wrong = ["go", "open f", "power a", "reset a", "load a", "note", "answer", "forget", "cut", "fence", "", "dip a", "cut any"]
        for call, value in itertools.product(SLEEP, wrong + no_strings()):
            self.check_error(InvalidOrder, {"word": "deeds"}, call, BLOCK, [value])
            self.check_error(InvalidOrder, {"word": "deeds"}, call, BLOCK, ("hold", value))
            self.check_error(InvalidOrder, {"word": "deeds"}, call, BLOCK, ["cut zz", value])
        for call, value in itertools.product(SLEEP, no_names() + ["hold", "cut a", {"hold": 1}, ["hold", "cut a", "hold"]]):
            if value not in ([], ()):
                self.check_error(InvalidOrder, {"word": "deeds"}, call, BLOCK, value)

    def test_mismatch(self):
        for call, deed in itertools.product(SLEEP, ["cut c", "save f", "fence a", "fence g", "cut f"]):
            self.check_error(Mismatch, {}, call, BLOCK, [deed])
            self.check_error(Mismatch, {}, call, BLOCK, ("hold", "fence f", deed))


class WakeTest(Checks, unittest.TestCase):
    def test_examples(self):
        order = wake_order(BLOCK, ["go", "open f", "power a", "load a"])
        self.assertEqual((str(order), order.many, order.earliest),
                         ("load a < go, load a < open f, power a < load a", 2, ("power a", "load a", "go", "open f")))

    def test_safe(self):
        self.assertIs(wake_safe(BLOCK, ["power a", "load a", "open f", "go"]), True)
        self.assertIs(wake_safe(BLOCK, ("power a", "load a", "go", "open f")), True)
        self.assertIs(wake_safe(BLOCK, ["power a", "load a", "reset a", "go"]), True)
        self.assertIs(wake_safe(BLOCK, []), True)
        self.assertIs(wake_safe(BLOCK, ["go", "open f"]), True)
        self.assertIs(wake_safe(BLOCK, ["power a", "power b"]), True)
        self.assertIs(wake_safe(BLOCK, ["power b", "reset b", "go", "open f"]), True)
        for deeds in (["load a", "power a", "go"], ["power a", "go"], ["power a", "open f", "load a"], ["power b", "go"],
                      ["reset b", "power b", "go"], ["power b", "go", "reset b"], ["power b", "load b", "open f"]):
            self.assertIs(wake_safe(BLOCK, deeds), False, deeds)

    def test_reset_ahead_of_load(self):
        block = Block.read("bit x a kept keeper start\nbit y a start\nsignal s f x\nsignal t g y")
        deeds = ["power a", "reset a", "load a", "open f", "open g", "go"]
        self.assertEqual(str(wake_order(block, deeds)),
                         "load a < go, load a < open f, power a < reset a, reset a < load a, reset a < open g")
        self.assertEqual(str(wake_order(block, deeds[:3] + ["open g"])),
                         "power a < reset a, reset a < open g, load a")
        block = Block.read("bit x a kept keeper start\nsignal s f x")
        self.assertEqual(str(wake_order(block, deeds[:4])), "load a < open f, power a < load a, reset a < load a")
        self.assertEqual(str(wake_order(block, deeds[:3])), "load a, power a, reset a")
        self.assertIs(wake_safe(block, ["power a", "load a", "reset a", "open f"]), False)
        self.assertIs(wake_safe(block, ["power a", "load a", "open f", "reset a"]), False)
        self.assertIs(wake_safe(block, ["reset a", "power a", "load a", "open f"]), True)

    def test_never_safe(self):
        for text, deeds in (("bit x a\nsignal s none x", ["power a"]), ("bit x a", ["power a", "go"]),
                            ("bit x a kept\nsignal s f x", ["power a", "load a", "open f"]),
                            ("bit x a kept start\nsignal s f x", ["power a", "reset a", "open f"]),
                            ("bit x a kept start", ["power a", "reset a", "go"]),
                            ("bit x a start", ["power a", "go"]), ("bit x a kept keeper", ["power a", "go"])):
            self.assertIsNone(wake_order(Block.read(text), deeds), text)
            for line in itertools.permutations(deeds):
                self.assertIs(wake_safe(Block.read(text), line), False, text)
        block = Block.read("bit x a\nbit y b\nsignal s none y\nsignal t none ^ x x")
        self.assertEqual(str(wake_order(block, ["power a"])), "power a")
        self.assertIsNone(wake_order(block, ["power b"]))

    def test_every_sequence(self):
        safe = 0
        for seed in range(200):
            chance = random.Random(seed)
            block = any_block(chance)
            deeds = wake_deeds(chance, block)
            while len(deeds) > 6:
                gone = deeds.pop()
                deeds = [deed for deed in deeds if not gone.startswith("power") or deed.split(" ")[-1] != gone[6:]]
            order = wake_order(block, deeds)
            for line in itertools.permutations(deeds):
                self.assertIs(wake_safe(block, line), woke_well(block, line), (str(block), line))
                self.assertIs(order is not None and order.holds(line), woke_well(block, line), (str(block), line))
            safe += order is not None
        self.assertGreater(safe, 50)

    def test_longer_sequences(self):
        for seed in range(600):
            chance = random.Random(seed)
            block = any_block(chance, 6, "abc", 4, "fgh")
            deeds = wake_deeds(chance, block, 0.9)
            order = wake_order(block, deeds)
            lines = [chance.sample(deeds, len(deeds)) for _ in range(3)]
            for line in lines if order is None else [*lines, order.earliest]:
                self.assertIs(wake_safe(block, line), woke_well(block, line), (str(block), line))
                self.assertIs(order is not None and order.holds(line), woke_well(block, line), (str(block), line))

    def test_wrong_deeds(self):
        wrong = ["hold", "fence f", "cut a", "save a", "note", "answer", "forget", "power", "open", "", "spill a", "power any"]
        for call, value in itertools.product(WAKE, wrong + no_strings()):
            self.check_error(InvalidOrder, {"word": "deeds"}, call, BLOCK, [value])
            self.check_error(InvalidOrder, {"word": "deeds"}, call, BLOCK, ("go", "power a", value))
            self.check_error(InvalidOrder, {"word": "deeds"}, call, BLOCK, ["power zz", value])
        for call, value in itertools.product(WAKE, no_names() + ["go", "power a", {"go": 1}, ["go", "power a", "go"]]):
            if value not in ([], ()):
                self.check_error(InvalidOrder, {"word": "deeds"}, call, BLOCK, value)

    def test_reset_and_load_without_power(self):
        for call, deed in itertools.product(WAKE, ["reset a", "load a", "reset c", "load c"]):
            self.check_error(InvalidOrder, {"word": "deeds"}, call, BLOCK, [deed])
            self.check_error(InvalidOrder, {"word": "deeds"}, call, BLOCK, ["power b", deed, "go"])
            self.check_error(InvalidOrder, {"word": "deeds"}, call, BLOCK, ["power d", deed, "open z"])

    def test_mismatch(self):
        for call, deed in itertools.product(WAKE, ["power c", "power f", "open a", "open g"]):
            self.check_error(Mismatch, {}, call, BLOCK, [deed])
            self.check_error(Mismatch, {}, call, BLOCK, ("go", "open f", "power a", deed, "load a"))
        for call in WAKE:
            self.check_error(Mismatch, {}, call, BLOCK, ["load c", "power c"])


if __name__ == "__main__":
    unittest.main()
