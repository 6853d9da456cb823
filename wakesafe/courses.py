"""What events do, apart from the bits: to the machine, to the asks and to the work."""

from wakesafe.errors import Mismatch
from wakesafe.words import AREA_EVENTS, PLAIN_EVENTS, kind_of


class Asks:
    """The asks that wait, and the one that comes, during one event.

    The one that comes is fresh as long as nothing has become of it. If it was
    noted and then forgotten, it is neither noted again nor answered.
    """

    def __init__(self, waits, comes):
        self.waits = waits
        self.fresh = comes
        self.answered = False
        self.met = []

    def hear(self, deed, going):
        """A deed is done, and the work goes on behind it, or not."""
        if deed == "note" and self.fresh:
            self.fresh = False
            self.waits = True
        elif deed == "answer" and (self.waits or self.fresh):
            self._answer(going)
        elif deed == "forget" and self.waits:
            self.met.append("swallowed")
            self.waits = False

    def end(self):
        """The event ends."""
        if self.fresh:
            self.met.append("swallowed")

    def _answer(self, going):
        if not going:
            self.met.append("hollow")
        self.answered = True
        self.fresh = False
        self.waits = False


class Course:
    """What one event does.

    The index of its rule, or None; the state, whether some ask waits and
    whether the work goes on behind it; whether an ask was answered; the goals
    that were met whatever the bits hold; and the acts, that is the fault and
    the deeds.
    """

    def __init__(self, rule, after, answered, met, acts):
        self.rule = rule
        self.after = after
        self.answered = answered
        self.met = met
        self.acts = acts


def check_match(block, machine):
    """Raises an error if the machine has an area or a fence that the block does not have."""
    if not all([area in block.areas for area in machine.areas]):
        raise Mismatch()
    if not all([fence in block.fences for fence in machine.fences]):
        raise Mismatch()


def events_of(block):
    """All events of a block."""
    return (*PLAIN_EVENTS, *[f"{kind} {area}" for area in block.areas for kind in AREA_EVENTS])


def acts_of(phrases, going):
    """The acts that these faults and deeds are: each with whether the work goes on behind it."""
    acts = []
    for phrase in phrases:
        if phrase == "hold":
            going = False
        elif phrase == "go":
            going = True
        acts.append((phrase, going))
    return tuple(acts)


def outset(machine):
    """The state, whether some ask waits and whether the work goes on, at the beginning."""
    return machine.first, False, True


def course_of(machine, control, event):
    """What an event does from a state, with or without asks that wait and the work that goes on."""
    state, waits, going = control
    at = machine.rule_for(state, event, waits)
    phrases = [event] if kind_of(event) in AREA_EVENTS else []
    if at is not None:
        state = machine.rules[at].then
        phrases.extend(machine.rules[at].deeds)
    acts = acts_of(phrases, going)
    asks = Asks(waits, event == "ask")
    for deed, goes_on in acts:
        asks.hear(deed, goes_on)
    asks.end()
    met = list(asks.met)
    if asks.waits and not _is_answered(machine, state):
        met.append("stuck")
    after = (state, asks.waits, acts[-1][1] if acts else going)
    return Course(at, after, asks.answered, tuple(met), acts)


def _is_answered(machine, state):
    """Whether the asks that wait in a state are answered at last if only ticks follow."""
    # More ticks than there are states do nothing new.
    for _ in machine.states:
        at = machine.rule_for(state, "tick", True)
        if at is None:
            return False
        for deed in machine.rules[at].deeds:
            if deed in ("answer", "forget"):
                return deed == "answer"
        state = machine.rules[at].then
    return False
