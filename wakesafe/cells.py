"""Cells: one bit with its keeper, and perhaps one signal that depends on the bit.

How a cell stands is told by a part, a tuple: whether the area of the bit is
powered, the content of the bit, the content of its keeper (an empty string
without one), and whether the signal is open (False without one).
"""

from wakesafe.words import FENCE_DEEDS, kind_of, name_of

RIGHT = "right"
OTHER = "other"
UNKNOWN = "unknown"
CONTENTS = ("right", "other", "unknown")
NO_KEEPER = ""


class Cell:
    """What of a bit and a signal matters to the bit. Cells of one shape behave alike."""

    def __init__(self, bit, signal=None):
        self.area = bit.area
        self.kept = bit.kept
        self.keeper = bit.keeper
        self.start = bit.start
        self.seen = signal is not None
        self.fence = None if signal is None else signal.fence
        self.shape = (self.area, self.kept, self.keeper, self.start, self.seen, self.fence)


def fresh_part(cell):
    """The part of a cell at the beginning."""
    return True, RIGHT, keeper_part(cell, UNKNOWN), cell.seen


def keeper_part(cell, content):
    """What stands in a part for a keeper with this content."""
    return content if cell.keeper else NO_KEEPER


def _dip(cell, part):
    powered, content, keeper, shown = part
    return powered, UNKNOWN if powered else content, keeper, shown


def _spill(cell, part):
    powered, content, _, shown = part
    return powered, content, keeper_part(cell, UNKNOWN), shown


def _fence(cell, part):
    powered, content, keeper, _ = part
    return powered, content, keeper, False


def _unfence(cell, part):
    powered, content, keeper, _ = part
    return powered, content, keeper, True


def _save(cell, part):
    powered, content, _, shown = part
    return powered, content, keeper_part(cell, content if powered else UNKNOWN), shown


def _load(cell, part):
    powered, content, keeper, shown = part
    return powered, keeper if powered and cell.keeper else content, keeper, shown


def _reset(cell, part):
    powered, _, keeper, shown = part
    if not powered or not cell.start:
        return part
    return powered, OTHER if cell.kept else RIGHT, keeper, shown


def _cut(cell, part):
    _, _, keeper, shown = part
    return False, UNKNOWN, keeper, shown


def _power(cell, part):
    _, content, keeper, shown = part
    return True, content, keeper, shown


CHANGES = {
    "dip": _dip,
    "spill": _spill,
    "fence": _fence,
    "open": _unfence,
    "save": _save,
    "load": _load,
    "reset": _reset,
    "cut": _cut,
    "power": _power,
}


def effects(cell, acts):
    """What these acts are to a cell: kinds of acts, each with whether the work goes on behind it.

    The kind is empty for an act that changes nothing here. Such an act counts
    only if it is the first one, or if the work was held or went on by it: for
    what was judged, and what followed the work, behind an act stays so.
    """
    told = []
    for phrase, going in acts:
        kind = kind_of(phrase) if _concerns(cell, phrase) else ""
        if kind or not told or told[-1][1] != going:
            told.append((kind, going))
    return tuple(told)


def passed(cell, part, told):
    """The part of a cell behind these effects, and the goals that were met on the way."""
    met = []
    for kind, going in told:
        if kind:
            change = CHANGES[kind]
            part = change(cell, part)
        met.extend(goals_now(cell, part, going))
        if going:
            part = _followed(part)
    return part, tuple(met)


def goals_now(cell, part, going):
    """The goals that a cell meets as it stands."""
    _, content, _, shown = part
    met = []
    if content == UNKNOWN:
        if going:
            met.append("blind")
        if shown:
            met.append("leak")
    if cell.kept and content != RIGHT and going:
        met.append("lost")
    if cell.kept and content == OTHER and shown:
        met.append("wrong")
    return met


def sight(fenced, seen):
    """The word of the view for a signal: seen are the contents of its bits, each with whether the bit is kept."""
    if fenced:
        return "fenced"
    if UNKNOWN in [content for content, _ in seen]:
        return "unknown"
    if (OTHER, True) in seen:
        return "wrong"
    return "clean"


class Passage:
    """What effects do to the parts of a cell; each is found out once."""

    def __init__(self, cell):
        self.cell = cell
        self.known = {}

    def moved(self, part, told):
        """The part behind these effects, and the goals that they meet."""
        key = (part, told)
        if key not in self.known:
            self.known[key] = passed(self.cell, part, told)
        return self.known[key]


def _concerns(cell, phrase):
    """Whether a fault or a deed may change the part of a cell."""
    return name_of(phrase) == (cell.fence if kind_of(phrase) in FENCE_DEEDS else cell.area)


def _followed(part):
    """The part when the bit has followed the work."""
    powered, content, keeper, shown = part
    return powered, RIGHT if content == OTHER else content, OTHER if keeper == RIGHT else keeper, shown
