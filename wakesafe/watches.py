"""Watches: one bit, or one signal and one bit, or none; and how events lead from standing to standing on them."""

from wakesafe.cells import Cell, Passage, effects, fresh_part
from wakesafe.courses import check_match, course_of, events_of, outset
from wakesafe.errors import InvalidGoal
from wakesafe.words import GOALS, kind_of

# How many items a standing has on a watch without a bit, on a bit, and on a signal and a bit.
PLAIN_SIZE = 3
BIT_SIZE = 6
SIGNAL_SIZE = 7


class Watch:
    """What is looked at by itself: its name, its cell (None without a bit) and the size of its standings."""

    def __init__(self, name, cell, size):
        self.name = name
        self.cell = cell
        self.size = size


def plain_watch():
    """The watch without a bit."""
    return Watch("", None, PLAIN_SIZE)


def bit_watches(block):
    """A watch for each bit."""
    return [Watch(bit.name, Cell(bit), BIT_SIZE) for bit in block.bits]


def signal_watches(block):
    """A watch for each signal and each bit on which its formula depends."""
    watches = []
    for signal in block.signals:
        for name in signal.formula.needs:
            watches.append(Watch((signal.name, name), Cell(block.bit(name), signal), SIGNAL_SIZE))
    return watches


def watches_of(block, goal):
    """The watches of a goal."""
    if goal in ("blind", "lost"):
        watches = bit_watches(block)
    elif goal in ("leak", "wrong"):
        watches = signal_watches(block)
    else:
        return [plain_watch()]
    return [watch for watch in watches if watch.cell.kept or goal in ("blind", "leak")]


def check_goal(goal):
    """Raises an error for any value that is no goal."""
    if goal not in GOALS:
        raise InvalidGoal()


class Study:
    """What the events that are not left aside do to a machine, in all its states."""

    def __init__(self, block, machine, without):
        check_match(block, machine)
        self.first = outset(machine)
        self.ruled = machine
        self.choices = [event for event in events_of(block) if event not in without and kind_of(event) not in without]
        self.known = {}

    def courses(self, control):
        """Each event with its course from here on."""
        if control not in self.known:
            self.known[control] = [(event, course_of(self.ruled, control, event)) for event in self.choices]
        return self.known[control]


class Graph:
    """The nodes of a watch, and the steps from one to another.

    A node is a pair: of the state, whether some ask waits and whether the work
    goes on; and of the part of the cell, which is empty without a bit.
    """

    def __init__(self, study, cell):
        self.study = study
        self.cell = cell
        self.first = (study.first, () if cell is None else fresh_part(cell))
        self.passage = Passage(cell)
        self.roads = {}

    def onward(self, node):
        """What may come next: triples of an event, the node behind it, and the goals that it meets."""
        control, part = node
        found = []
        for event, after, met, told in self._roads_from(control):
            moved, also_met = self.passage.moved(part, told) if told else (part, ())
            found.append((event, (after, moved), met + also_met))
        return found

    def _roads_from(self, control):
        """The events that differ here, for all parts alike; the first ones of those that are the same."""
        if control not in self.roads:
            roads = {}
            for event, course in self.study.courses(control):
                told = () if self.cell is None else effects(self.cell, course.acts)
                roads.setdefault((course.after, course.met, told), event)
            self.roads[control] = [(event, after, met, told) for (after, met, told), event in roads.items()]
        return self.roads[control]


class Journey:
    """All nodes of a graph that can come, and for each goal that is met a shortest way to meet it."""

    def __init__(self, graph):
        self.came = {graph.first: None}
        self.ways = {}
        nodes = [graph.first]
        at = 0
        while at < len(nodes):
            node = nodes[at]
            for event, after, met in graph.onward(node):
                for goal in met:
                    self.ways.setdefault(goal, (node, event))
                if after not in self.came:
                    self.came[after] = (node, event)
                    nodes.append(after)
            at += 1
        self.nodes = nodes

    def way(self, goal):
        """A tuple of the fewest events that meet a goal, or None."""
        events = []
        last = self.ways.get(goal)
        while last is not None:
            node, event = last
            events.append(event)
            last = self.came[node]
        return tuple(events[::-1]) if events else None


class Travels:
    """The journeys of a block with a machine; one for all watches whose cells are alike."""

    def __init__(self, block, machine, without):
        self.study = Study(block, machine, without)
        self.block = block
        self.made = {}

    def journey(self, watch):
        """The journey on a watch."""
        shape = () if watch.cell is None else watch.cell.shape
        if shape not in self.made:
            self.made[shape] = Journey(Graph(self.study, watch.cell))
        return self.made[shape]
