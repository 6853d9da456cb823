"""Runs: what a machine does on a sequence of events."""

from wakesafe.cells import effects, fresh_part, passed, sight
from wakesafe.courses import check_match, course_of, events_of, outset
from wakesafe.errors import InvalidEvent
from wakesafe.watches import bit_watches, signal_watches
from wakesafe.words import FENCE_DEEDS, ascending, is_sequence, kind_of, name_of


class Played:
    """How things stand behind a sequence of events, and what happened on the way."""

    def __init__(self, block, machine, courses):
        self.state, self.waits, self.going = courses[-1].after if courses else outset(machine)
        self.rules = tuple([course.rule for course in courses])
        self.answered = tuple([course.answered for course in courses])
        acts = [act for course in courses for act in course.acts]
        met = [goal for course in courses for goal in course.met]
        parts = {}
        for watch in bit_watches(block):
            parts[watch.name], also_met = _end_of(watch.cell, acts)
            met.extend(also_met)
        seen = {signal.name: [] for signal in block.signals}
        for watch in signal_watches(block):
            _, also_met = _end_of(watch.cell, acts)
            met.extend(also_met)
            seen[watch.name[0]].append(watch.name[1])
        self.goals = ascending(met)
        self.powered = ascending([bit.area for bit in block.bits if parts[bit.name][0]])
        self.raised = _raised(acts)
        self.bit_contents = tuple([(bit.name, parts[bit.name][1]) for bit in block.bits])
        self.keeper_contents = tuple([(bit.name, parts[bit.name][2]) for bit in block.bits if bit.keeper])
        self.view = tuple([_word(self, block, signal, seen[signal.name]) for signal in block.signals])

    @property
    def contents(self):
        """The contents of all bits."""
        return dict(self.bit_contents)

    @property
    def keepers(self):
        """The contents of all keepers."""
        return dict(self.keeper_contents)


def play(block, machine, events):
    """What the machine does on these events, from the beginning on."""
    check_match(block, machine)
    _check_events(block, events)
    control = outset(machine)
    courses = []
    for event in events:
        course = course_of(machine, control, event)
        courses.append(course)
        control = course.after
    return Played(block, machine, courses)


def _check_events(block, events):
    """Raises an error for any value that is no sequence of events of the block."""
    if not is_sequence(events):
        raise InvalidEvent(0)
    known = events_of(block)
    for at, event in enumerate(events):
        if event not in known:
            raise InvalidEvent(at)


def _end_of(cell, acts):
    """The part of a cell behind these acts, from the beginning on, and the goals that were met."""
    return passed(cell, fresh_part(cell), effects(cell, acts))


def _raised(acts):
    """The fences that are raised behind these acts, in ascending order."""
    raised = {}
    for phrase, _ in acts:
        if kind_of(phrase) in FENCE_DEEDS:
            raised[name_of(phrase)] = kind_of(phrase) == "fence"
    return ascending([fence for fence in raised if raised[fence]])


def _word(played, block, signal, names):
    """The word of the view for a signal that depends on the bits with these names."""
    contents = dict(played.bit_contents)
    return sight(signal.fence in played.raised, [(contents[name], block.bit(name).kept) for name in names])
