"""The document's words about runs, done slowly and bit by bit over a whole block: what the package is compared with."""

import itertools

from wakesafe.blocks import Block, Signal
from wakesafe.formulas import Formula

GOALS = ("blind", "hollow", "leak", "lost", "stuck", "swallowed", "wrong")


def needs(formula):
    """The names on which a formula depends, by trying all values."""
    names = list(formula.names)
    found = []
    for name in names:
        for values in itertools.product([False, True], repeat=len(names)):
            known = dict(zip(names, values))
            if formula.value({**known, name: True}) != formula.value({**known, name: False}):
                found.append(name)
                break
    return sorted(found)


class World:
    """A block and its machine as they stand; each ask by itself, with a number."""

    def __init__(self, block, machine):
        self.block, self.machine = block, machine
        self.needs = {signal.name: needs(signal.formula) for signal in block.signals}
        self.state = None if machine is None else machine.first
        self.waiting = []
        self.going = True
        self.powered = {bit.area: True for bit in block.bits}
        self.raised = {signal.fence: False for signal in block.signals if signal.fence is not None}
        self.contents = {bit.name: "right" for bit in block.bits}
        self.keepers = {bit.name: "unknown" for bit in block.bits if bit.keeper}
        self.goals = set()
        self.asked = 0
        self.ask = None
        self.noted = self.answered = self.forgotten = False

    def copy(self):
        other = World.__new__(World)
        for name, value in vars(self).items():
            fresh = name in ("waiting", "powered", "raised", "contents", "keepers", "goals")
            setattr(other, name, type(value)(value) if fresh else value)
        return other

    def key(self):
        """What the future depends on."""
        parts = [self.state, bool(self.waiting), self.going]
        for table in (self.powered, self.raised, self.contents, self.keepers):
            parts.append(tuple(sorted(table.items())))
        return tuple(parts)

    def bits(self, area):
        return [bit for bit in self.block.bits if bit.area == area]

    def take(self, event):
        """Takes an event; returns the index of the rule and whether an ask was answered."""
        self.ask, self.answered_now = None, False
        self.noted = self.answered = self.forgotten = False
        if event == "ask":
            self.asked += 1
            self.ask = self.asked
        word, _, area = event.partition(" ")
        if word == "dip":
            for bit in self.bits(area):
                if self.powered[area]:
                    self.contents[bit.name] = "unknown"
            self.judge()
        if word == "spill":
            for bit in self.bits(area):
                if bit.keeper:
                    self.keepers[bit.name] = "unknown"
            self.judge()
        found = self.rule(event)
        if found is not None:
            rule = self.machine.rules[found]
            for deed in rule.deeds:
                self.do(deed)
            self.state = rule.then
        if self.ask is not None and not self.noted and not self.answered:
            self.goals.add("swallowed")
        if self.waiting and not self.answered_by_ticks():
            self.goals.add("stuck")
        return found, self.answered_now

    def rule(self, event):
        for at, rule in enumerate(self.machine.rules):
            fits = {"any": True, "waits": len(self.waiting) > 0, "calm": len(self.waiting) == 0}[rule.guard]
            if rule.state == self.state and rule.event == event and fits:
                return at
        return None

    def answered_by_ticks(self):
        """Whether enough ticks answer the asks that wait."""
        state = self.state
        for _ in range(len(self.machine.rules) + 2):
            fit = [rule for rule in self.machine.rules
                   if rule.state == state and rule.event == "tick" and rule.guard in ("any", "waits")]
            if not fit:
                return False
            ends = [deed for deed in fit[0].deeds if deed in ("answer", "forget")]
            if ends:
                return ends[0] == "answer"
            state = fit[0].then
        return False

    def do(self, deed):
        """Does a deed, with what happens after it."""
        word, _, name = deed.partition(" ")
        if word == "hold":
            self.going = False
        elif word == "go":
            self.going = True
        elif word in ("fence", "open"):
            self.raised[name] = word == "fence"
        elif word in ("note", "answer", "forget"):
            self.do_asks(word)
        elif word == "cut":
            self.powered[name] = False
            for bit in self.bits(name):
                self.contents[bit.name] = "unknown"
        elif word == "power":
            self.powered[name] = True
        else:
            self.do_bits(word, name)
        self.judge()

    def do_asks(self, word):
        if word == "note":
            if not self.answered and not self.forgotten and self.ask not in self.waiting:
                self.waiting.append(self.ask)
                self.noted = True
        elif word == "answer":
            reached = list(self.waiting)
            if self.ask is not None and not self.forgotten and not self.answered and self.ask not in reached:
                reached.append(self.ask)
            if self.ask in reached:
                self.answered = True
            if reached:
                self.answered_now = True
                if not self.going:
                    self.goals.add("hollow")
            self.waiting = []
        else:
            if self.waiting:
                self.goals.add("swallowed")
            if self.noted:
                self.forgotten = True
            self.waiting = []

    def do_bits(self, word, area):
        for bit in self.bits(area):
            if word == "save" and bit.keeper:
                self.keepers[bit.name] = self.contents[bit.name] if self.powered[area] else "unknown"
            if word == "load" and bit.keeper and self.powered[area]:
                self.contents[bit.name] = self.keepers[bit.name]
            if word == "reset" and bit.start and self.powered[area]:
                self.contents[bit.name] = "other" if bit.kept else "right"

    def judge(self):
        """Tells which goals are met, and lets the bits follow the work."""
        contents = self.contents
        if self.going and "unknown" in contents.values():
            self.goals.add("blind")
        if self.going and any(bit.kept and contents[bit.name] != "right" for bit in self.block.bits):
            self.goals.add("lost")
        for signal in self.block.signals:
            if signal.fence is None or not self.raised[signal.fence]:
                for name in self.needs[signal.name]:
                    if contents[name] == "unknown":
                        self.goals.add("leak")
                    if contents[name] == "other" and self.block.bit(name).kept:
                        self.goals.add("wrong")
        if self.going:
            for name, content in contents.items():
                if content == "other":
                    contents[name] = "right"
            for name, content in self.keepers.items():
                if content == "right":
                    self.keepers[name] = "other"

    def view(self):
        words = []
        for signal in self.block.signals:
            seen = [(self.contents[name], self.block.bit(name).kept) for name in self.needs[signal.name]]
            if signal.fence is not None and self.raised[signal.fence]:
                words.append("fenced")
            elif "unknown" in [content for content, _ in seen]:
                words.append("unknown")
            else:
                words.append("wrong" if ("other", True) in seen else "clean")
        return tuple(words)


def events_of(block, without=()):
    """The events of a block that are not left aside."""
    events = ["ask", "idle", "tick"]
    for area in sorted({bit.area for bit in block.bits}):
        events += ["dip " + area, "spill " + area]
    return [event for event in events if event not in without and event.split(" ")[0] not in without]


def explore(first, events):
    """For each goal that happens the fewest events, and the indexes of the rules that come."""
    worlds, many, found, rules = [first], 0, {}, set()
    known = {first.key()}
    while worlds:
        many += 1
        later = []
        for world in worlds:
            for event in events:
                other = world.copy()
                other.goals = set()
                rules.add(other.take(event)[0])
                for goal in other.goals:
                    found.setdefault(goal, many)
                if other.key() not in known:
                    known.add(other.key())
                    later.append(other)
        worlds = later
    return found, rules


def shown(world, event):
    """What an event shows."""
    _, answered = world.take(event)
    return answered, world.view()


def fewest_apart(block, p, q, without=()):
    """The fewest events whose last one does not show the same of two machines, or None."""
    worlds, many = [(World(block, p), World(block, q))], 0
    known = {tuple(world.key() for world in worlds[0])}
    while worlds:
        many += 1
        later = []
        for pair in worlds:
            for event in events_of(block, without):
                one, other = pair[0].copy(), pair[1].copy()
                if shown(one, event) != shown(other, event):
                    return many
                if (one.key(), other.key()) not in known:
                    known.add((one.key(), other.key()))
                    later.append((one, other))
        worlds = later
    return None


def fewest_names(names, made, machine, goals, without=()):
    """The choices of the fewest names with which the block that is made comes to none of the goals."""
    for many in range(len(names) + 1):
        found = []
        for chosen in itertools.combinations(sorted(names), many):
            block = made(chosen)
            met, _ = explore(World(block, machine), events_of(block, without))
            if not any(goal in met for goal in goals):
                found.append(chosen)
        if found:
            return found
    return []


def watches_of(block, goal):
    """The watches of a goal."""
    if goal in ("blind", "lost"):
        return [bit.name for bit in block.bits if bit.kept or goal == "blind"]
    if goal in ("leak", "wrong"):
        return [(signal.name, name) for signal in block.signals for name in needs(signal.formula)
                if block.bit(name).kept or goal == "leak"]
    return [""]


def alone(block, watch):
    """The block with the bit of a watch alone, and with its signal alone if it has one."""
    if watch == "":
        return block
    names = watch if isinstance(watch, tuple) else (None, watch)
    bits = [bit for bit in block.bits if bit.name == names[1]]
    signals = [Signal(signal.name, Formula.of(names[1]), signal.fence) for signal in block.signals
               if signal.name == names[0]]
    return Block(bits, signals)


def world_at(block, machine, watch, standing):
    """The world of a watch alone, as a standing tells it."""
    world = World(alone(block, watch), machine)
    world.state, world.going = standing[0], standing[2]
    world.waiting = [0] if standing[1] else []
    if watch != "":
        bit = world.block.bits[0]
        world.powered = {bit.area: standing[3]}
        world.contents = {bit.name: standing[4]}
        world.keepers = {bit.name: standing[5]} if bit.keeper else {}
    if len(standing) == 7:
        world.raised = {signal.fence: not standing[6] for signal in world.block.signals if signal.fence is not None}
    return world


def standing_of(world, watch):
    """The standing on a watch of a world that has the watch alone."""
    standing = (world.state, bool(world.waiting), world.going)
    if watch == "":
        return standing
    bit = world.block.bits[0]
    standing += (world.powered[bit.area], world.contents[bit.name], world.keepers.get(bit.name, ""))
    if isinstance(watch, tuple):
        standing += (not world.raised.get(world.block.signals[0].fence, False),)
    return standing


def is_right(block, machine, goal, told, without=()):
    """Whether a paper of the right form is right."""
    for watch, standings in told:
        if standing_of(World(alone(block, watch), machine), watch) not in standings:
            return False
        for standing in standings:
            for event in events_of(block, without):
                world = world_at(block, machine, watch, standing)
                world.take(event)
                if goal in world.goals or standing_of(world, watch) not in standings:
                    return False
    return True
