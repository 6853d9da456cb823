"""Scenes: all that is seen outside of a block, with what it depends on.

How a scene stands is told by a place: the parts of its cells, and for each
fence whether it is raised. What an event does to a scene is told by a change:
its effects on each cell, and for each fence whether it is raised behind the
event (None if it stays). Places and changes have numbers, as there are many of
them, and the same ones come again and again.
"""

from wakesafe.cells import Cell, Passage, effects, fresh_part, sight
from wakesafe.words import FENCE_DEEDS, kind_of, name_of

# The number of the place at the beginning.
FIRST_PLACE = 0


class Numbered:
    """Different things, each with a number, in the order in which they came."""

    def __init__(self):
        self.things = []
        self.numbers = {}

    def number(self, thing):
        """The number of a thing, which is a new one for a new thing."""
        if thing not in self.numbers:
            self.numbers[thing] = len(self.things)
            self.things.append(thing)
        return self.numbers[thing]


class Scene:
    """The cells of the bits on which signals depend, one of each shape, and the fences."""

    def __init__(self, block):
        shapes = Numbered()
        self.passages = []
        self.signals = []
        for signal in block.signals:
            seen = []
            for name in signal.formula.needs:
                cell = Cell(block.bit(name))
                at = shapes.number(cell.shape)
                if at == len(self.passages):
                    self.passages.append(Passage(cell))
                seen.append(at)
            self.signals.append((signal.fence, tuple(seen)))
        self.fences = block.fences
        self.changes = Numbered()
        self.places = Numbered()
        self.views = []
        self.moves = {}
        self._place((tuple([fresh_part(passage.cell) for passage in self.passages]), (False,) * len(self.fences)))

    def change(self, acts):
        """The number of the change that these acts are."""
        told = tuple([effects(passage.cell, acts) for passage in self.passages])
        raised = {}
        for phrase, _ in acts:
            if kind_of(phrase) in FENCE_DEEDS:
                raised[name_of(phrase)] = kind_of(phrase) == "fence"
        return self.changes.number((told, tuple([raised.get(fence) for fence in self.fences])))

    def behind(self, place, change):
        """The number of the place behind a change."""
        key = (place, change)
        if key not in self.moves:
            self.moves[key] = self._moved(self.places.things[place], self.changes.things[change])
        return self.moves[key]

    def seen_at(self, place):
        """What is seen outside at a place."""
        return self.views[place]

    def _moved(self, place, change):
        parts = []
        for passage, part, told in zip(self.passages, place[0], change[0]):
            parts.append(passage.moved(part, told)[0])
        raised = [before if told is None else told for before, told in zip(place[1], change[1])]
        return self._place((tuple(parts), tuple(raised)))

    def _place(self, place):
        """The number of a place, whose view is kept."""
        at = self.places.number(place)
        if at == len(self.views):
            self.views.append(tuple([self._word(place, fence, seen) for fence, seen in self.signals]))
        return at

    def _word(self, place, fence, seen):
        """The word of the view for a signal with this fence that depends on the cells with these numbers."""
        parts, raised = place
        fenced = fence is not None and raised[self.fences.index(fence)]
        return sight(fenced, [(parts[at][1], self.passages[at].cell.kept) for at in seen])
