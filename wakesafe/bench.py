"""Benches: machines that are run event by event, and back again."""

from wakesafe.errors import InvalidEvent, Refused
from wakesafe.runs import play


class Moment:
    """A machine and the events that it took so far, with what they led to. It never changes."""

    def __init__(self, block, machine, events):
        self.given_machine = machine
        self.given_events = events
        self.reached = play(block, machine, events)

    def result(self):
        """Whether an ask was answered in the last event, and the view behind it."""
        return self.reached.answered[-1], self.reached.view


class Trial:
    """What leaves a bench as it was when the trial was entered."""

    def __init__(self, bench):
        self.bench = bench
        self.now = bench.now
        self.past = bench.past

    def __enter__(self):
        self.now = self.bench.now
        self.past = self.bench.past
        return self.bench

    def __exit__(self, kind, value, trace):
        bench = self.bench
        bench.now = self.now
        bench.past = self.past


class Bench:
    """A block with a machine that takes one event after another.

    The moments that can be come back to are kept in `past`, the last one last.
    """

    def __init__(self, block, machine):
        self.block = block
        self.now = Moment(block, machine, ())
        self.past = ()

    def __len__(self):
        return len(self.past)

    @property
    def machine(self):
        """The machine, which can be set: all begins anew then."""
        return self.now.given_machine

    @machine.setter
    def machine(self, machine):
        self.follow(machine)

    @property
    def events(self):
        """The events so far."""
        return self.now.given_events

    @property
    def played(self):
        """How things stand behind these events."""
        return self.now.reached

    def take(self, event):
        """Takes an event, and returns whether an ask was answered, and the view after it."""
        moment = self._after(self.now, event)
        self._come(moment)
        return moment.result()

    def several(self, events):
        """Takes all these events or none, and returns what they give."""
        moment = self.now
        results = []
        for at, event in enumerate(events):
            try:
                moment = self._after(moment, event)
            except InvalidEvent as e:
                raise Refused(at) from e
            results.append(moment.result())
        if results:
            self._come(moment)
        return tuple(results)

    def follow(self, machine):
        """Sets the machine, and begins anew."""
        self._come(Moment(self.block, machine, ()))

    def undo(self):
        """Takes back what was done last, and returns whether there was anything."""
        if not self.past:
            return False
        self.now = self.past[-1]
        self.past = self.past[:-1]
        return True

    def trial(self):
        """A context manager behind which the bench is as it was before."""
        return Trial(self)

    def within(self, work):
        """What a function of the bench returns; the bench is as it was before then."""
        with Trial(self) as bench:
            return work(bench)

    def _after(self, moment, event):
        """The moment behind one more event."""
        return Moment(self.block, moment.given_machine, (*moment.given_events, event))

    def _come(self, moment):
        """Goes on to another moment, in such a way that it can be taken back."""
        self.past = (*self.past, self.now)
        self.now = moment
