"""Machines: rules that put a block to sleep and wake it."""

from wakesafe.errors import InvalidMachine, InvalidText, NoRule
from wakesafe.words import AREA_DEEDS, AREA_EVENTS, FENCE_DEEDS
from wakesafe.words import ascending, is_deed, is_event, is_name, is_sequence, kind_of, name_of

GUARDS = ("any", "waits", "calm")


class Rule:
    """In a state, on an event, if the guard holds: some deeds and the next state."""

    def __init__(self, state, event, guard, then, deeds=()):
        if not is_name(state):
            raise InvalidMachine("state")
        if not is_event(event):
            raise InvalidMachine("event")
        if guard not in GUARDS:
            raise InvalidMachine("guard")
        if not is_name(then):
            raise InvalidMachine("then")
        if not is_sequence(deeds) or not all([_may_do(event, deed) for deed in deeds]):
            raise InvalidMachine("deeds")
        self.state = state
        self.event = event
        self.guard = guard
        self.then = then
        self.deeds = tuple(deeds)

    def __eq__(self, other):
        return isinstance(other, Rule) and str(self) == str(other)

    def __str__(self):
        return f"{self.state} {self.event} {self.guard} -> {self.then}{_deeds_text(self.deeds)}"


class Machine:
    """A first state and some rules, of which the first one that fits is done."""

    def __init__(self, first, rules=()):
        if not is_name(first):
            raise InvalidMachine("first")
        if not is_sequence(rules) or not all([isinstance(rule, Rule) for rule in rules]):
            raise InvalidMachine("rules")
        self.first = first
        self.rules = tuple(rules)
        self.states = ascending([first, *[rule.state for rule in rules], *[rule.then for rule in rules]])
        self.areas = _names_behind(rules, AREA_EVENTS + AREA_DEEDS)
        self.fences = _names_behind(rules, FENCE_DEEDS)

    @classmethod
    def read(cls, text):
        """The machine with this text."""
        lines = text.split("\n")
        word, _, first = lines[0].partition(" ")
        if word != "first" or not is_name(first):
            raise InvalidText(0)
        rules = []
        for at, line in enumerate(lines[1:], start=1):
            rule = _read_rule(line)
            if rule is None:
                raise InvalidText(at)
            rules.append(rule)
        return cls(first, rules)

    def without(self, at):
        """The machine without the rule with this index."""
        if not 0 <= at < len(self.rules):
            raise NoRule(at)
        return Machine(self.first, self.rules[:at] + self.rules[at + 1:])

    def rule_for(self, state, event, waits):
        """The index of the first rule that fits, or None."""
        guards = ("any", "waits" if waits else "calm")
        for at, rule in enumerate(self.rules):
            if rule.state == state and rule.event == event and rule.guard in guards:
                return at
        return None

    def __len__(self):
        return len(self.rules)

    def __getitem__(self, at):
        if not 0 <= at < len(self.rules):
            raise NoRule(at)
        return self.rules[at]

    def __iter__(self):
        raise TypeError("a machine is not iterable")

    def __add__(self, other):
        if not isinstance(other, Machine):
            return NotImplemented
        return Machine(self.first, self.rules + other.rules)

    def __eq__(self, other):
        return isinstance(other, Machine) and self.first == other.first and self.rules == other.rules

    def __str__(self):
        return "\n".join([f"first {self.first}", *[str(rule) for rule in self.rules]])


def _may_do(event, deed):
    """Whether any value is a deed that a rule for this event may have."""
    return is_deed(deed) and (deed != "note" or event == "ask")


def _deeds_text(deeds):
    """What stands behind the next state in the text of a rule."""
    return ": " + ", ".join(deeds) if deeds else ""


def _names_behind(rules, kinds):
    """The names behind words of these kinds in the events and deeds of some rules."""
    phrases = []
    for rule in rules:
        phrases.extend([rule.event, *rule.deeds])
    return ascending([name_of(phrase) for phrase in phrases if kind_of(phrase) in kinds])


def _read_rule(line):
    """The rule with this text, or None."""
    head, _, tail = line.partition(" -> ")
    words = head.split(" ")
    then, colon, deeds = tail.partition(": ")
    try:
        return Rule(words[0], " ".join(words[1:-1]), words[-1], then, deeds.split(", ") if colon else ())
    except InvalidMachine:
        return None
