"""Blocks and machines by chance, the same ones each time."""

from wakesafe.blocks import Bit, Block, Signal
from wakesafe.formulas import Formula
from wakesafe.machines import Machine, Rule

STATES = ["run", "off", "wake", "nap", "low", "up"]
PLAIN = ["hold", "go", "note", "answer", "forget"]


def any_block(chance, bits=3, areas="ab", signals=2, fences="fa"):
    """A block with at most so many bits and signals."""
    made = []
    for at in range(chance.randint(1, bits)):
        kept = chance.random() < 0.6
        keeper = kept and chance.random() < 0.8
        made.append(Bit("uvwxyzst"[at], chance.choice(areas), kept, keeper, chance.random() < 0.5))
    edge = []
    for at in range(chance.randint(0, signals)):
        formula = Formula.always(chance.random() < 0.5)
        for bit in chance.sample(made, chance.randint(0, min(3, len(made)))):
            other = Formula.of(bit.name)
            formula = chance.choice([formula & other, formula | other, formula ^ other, ~other, other ^ other])
        edge.append(Signal("jklmno"[at], formula, chance.choice([None, *fences])))
    return Block(made, edge)


def any_deed(chance, block, event):
    """A deed that may stand in a rule for an event."""
    deeds = [word for word in PLAIN if word != "note" or event == "ask"]
    deeds += [word + " " + fence for fence in block.fences for word in ("fence", "open")]
    for area in block.areas:
        deeds += [word + " " + area for word in ("save", "load", "cut", "power", "reset")]
    return chance.choice(deeds)


def any_machine(chance, block, rules=6, states=3, deeds=4):
    """A machine for a block with at most so many rules, states and deeds."""
    events = ["ask", "ask", "idle", "tick", "tick"]
    for area in block.areas:
        events += ["dip " + area, "spill " + area]
    made = []
    for _ in range(chance.randint(0, rules)):
        event = chance.choice(events)
        done = [any_deed(chance, block, event) for _ in range(chance.randint(0, deeds))]
        guard = chance.choice(["any", "any", "waits", "calm"])
        made.append(Rule(chance.choice(STATES[:states]), event, guard, chance.choice(STATES[:states]), done))
    return Machine(STATES[0], made)


def tame_machine(chance, block):
    """A machine that sleeps and wakes mostly as it should."""
    down = ["hold", *["fence " + fence for fence in block.fences], *["save " + area for area in block.areas],
            *["cut " + area for area in block.areas if chance.random() < 0.7]]
    up = []
    for area in block.areas:
        up += ["power " + area, "reset " + area, "load " + area]
    up += [*["open " + fence for fence in block.fences], "go", "answer"]
    for deeds in (down, up):
        if chance.random() < 0.5:
            at = chance.randrange(len(deeds))
            deeds.insert(chance.randrange(len(deeds)), deeds.pop(at))
    rules = [Rule("run", "ask", "any", "run", ["answer"]), Rule("run", "idle", "calm", "off", down),
             Rule("off", "ask", "any", "wake", ["note"]), Rule("wake", "ask", "any", "wake", ["note"]),
             Rule("wake", "tick", "any", "run", up)]
    return Machine("run", rules)


def changed_machine(chance, block, machine):
    """A machine in which one rule is another one, or has moved, or has its deeds in another way."""
    rules = list(machine.rules)
    way = chance.randrange(5)
    if way == 0 or not rules:
        return Machine(machine.first, rules + list(any_machine(chance, block, 2, 3, 2).rules))
    at = chance.randrange(len(rules))
    if way == 1:
        rules.insert(chance.randrange(len(rules)), rules.pop(at))
        return Machine(machine.first, rules)
    if way == 2:
        return machine.without(at)
    rule, deeds = rules[at], list(rules[at].deeds)
    if way == 3 and len(deeds) > 1:
        deeds.insert(chance.randrange(len(deeds)), deeds.pop(chance.randrange(len(deeds))))
    else:
        deeds.insert(chance.randint(0, len(deeds)), any_deed(chance, block, rule.event))
    rules[at] = Rule(rule.state, rule.event, rule.guard, rule.then, deeds)
    return Machine(machine.first, rules)


def some_events(chance, block, most=12):
    """A sequence of events of a block."""
    events = ["ask", "idle", "tick", "ask", "idle", "tick"]
    for area in block.areas:
        events += ["dip " + area, "spill " + area]
    return [chance.choice(events) for _ in range(chance.randint(0, most))]
