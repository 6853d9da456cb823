"""Orders: partial orders of deeds, and all safe orders of one sleep or one waking."""

from wakesafe.cells import RIGHT, UNKNOWN, effects, fresh_part, goals_now, keeper_part, passed
from wakesafe.courses import acts_of
from wakesafe.errors import InvalidOrder, InvalidText, Mismatch, NoName
from wakesafe.sequences import earliest_of, has_circle, links_of, many_of, masks_behind, pairs_of
from wakesafe.watches import bit_watches, signal_watches
from wakesafe.words import FENCE_DEEDS, ascending, is_deed, is_sequence, kind_of, name_of

SLEEP_DEEDS = ("hold", "fence", "save", "cut")
WAKE_DEEDS = ("power", "reset", "load", "open", "go")
# The deeds that a waking has only for areas that it powers.
POWERED_DEEDS = ("reset", "load")


class Order:
    """A partial order of some deeds: pairs of a deed and one that must be done behind it."""

    def __init__(self, deeds, pairs=()):
        if not _are_deeds(deeds):
            raise InvalidOrder("deeds")
        if not is_sequence(pairs) or not all([_is_pair(pair, deeds) for pair in pairs]):
            raise InvalidOrder("pairs")
        names = ascending(deeds)
        places = {deed: at for at, deed in enumerate(names)}
        behind = masks_behind(len(names), [(places[first], places[second]) for first, second in pairs])
        if has_circle(behind):
            raise InvalidOrder("circle")
        self.deeds = names
        self.pairs = tuple([(names[first], names[second]) for first, second in pairs_of(behind)])
        self.links = tuple([(names[first], names[second]) for first, second in links_of(behind)])
        self.many = many_of(behind)
        self.earliest = tuple([names[at] for at in earliest_of(behind)])

    @classmethod
    def read(cls, text):
        """The order with this text."""
        deeds = []
        pairs = []
        for at, item in enumerate([] if text == "-" else text.split(", ")):
            parts = item.split(" < ")
            if len(parts) > 2 or not all([is_deed(part) for part in parts]):
                raise InvalidText(at)
            deeds.extend(parts)
            if len(parts) == 2:
                pairs.append((parts[0], parts[1]))
        return cls(ascending(deeds), pairs)

    def holds(self, value):
        """Whether any value is a sequence of all deeds, each once, that keeps all pairs."""
        if not _are_deeds(value) or ascending(value) != self.deeds:
            return False
        places = {deed: at for at, deed in enumerate(value)}
        return all([places[first] < places[second] for first, second in self.pairs])

    def without(self, deed):
        """The order of the other deeds."""
        if deed not in self.deeds:
            raise NoName(deed)
        others = [other for other in self.deeds if other != deed]
        return Order(others, [pair for pair in self.pairs if deed not in pair])

    def __and__(self, other):
        if not isinstance(other, Order):
            return NotImplemented
        _check_same_deeds(self, other)
        return Order(self.deeds, self.pairs + other.pairs)

    def __or__(self, other):
        if not isinstance(other, Order):
            return NotImplemented
        _check_same_deeds(self, other)
        return Order(self.deeds, _shared(self.pairs, other.pairs))

    def __invert__(self):
        return Order(self.deeds, [(second, first) for first, second in self.pairs])

    def __le__(self, other):
        if not isinstance(other, Order):
            return NotImplemented
        _check_same_deeds(self, other)
        return len(_shared(self.pairs, other.pairs)) == len(other.pairs)

    def __ge__(self, other):
        if not isinstance(other, Order):
            return NotImplemented
        _check_same_deeds(self, other)
        return len(_shared(self.pairs, other.pairs)) == len(self.pairs)

    def __len__(self):
        return len(self.deeds)

    def __eq__(self, other):
        return isinstance(other, Order) and self.deeds == other.deeds and self.pairs == other.pairs

    def __str__(self):
        if not self.deeds:
            return "-"
        return ", ".join(_items(self))


def sleep_safe(block, deeds):
    """Whether these deeds put the block to sleep safely in just this sequence."""
    _check_deeds(block, deeds, SLEEP_DEEDS)
    acts = acts_of(deeds, True)
    for watch in bit_watches(block) + signal_watches(block):
        cell = watch.cell
        (powered, _, keeper, _), met = passed(cell, fresh_part(cell), effects(cell, acts))
        if met or (cell.kept and not powered and keeper != RIGHT):
            return False
    return True


def sleep_order(block, deeds):
    """The order of the deeds whose sequences are those that are safe, or None."""
    _check_deeds(block, deeds, SLEEP_DEEDS)
    return _order_of(deeds, _sleep_pairs(block, deeds))


def wake_safe(block, deeds):
    """Whether these deeds wake the block safely in just this sequence."""
    _check_deeds(block, deeds, WAKE_DEEDS)
    acts = acts_of(deeds, False)
    for watch in bit_watches(block) + signal_watches(block):
        cell = watch.cell
        part = _asleep(cell, deeds)
        if goals_now(cell, part, False) or passed(cell, part, effects(cell, acts))[1]:
            return False
    return True


def wake_order(block, deeds):
    """The order of the deeds whose sequences are those that are safe, or None."""
    _check_deeds(block, deeds, WAKE_DEEDS)
    return _order_of(deeds, _wake_pairs(block, deeds))


def _are_deeds(value):
    """Whether any value is a sequence of deeds, each once."""
    return is_sequence(value) and all([is_deed(deed) for deed in value]) and len(ascending(value)) == len(value)


def _is_pair(value, deeds):
    """Whether any value is a pair of two of these deeds."""
    return isinstance(value, tuple) and len(value) == 2 and all([deed in deeds for deed in value])


def _check_same_deeds(p, q):
    """Raises an error if two orders are not of the same deeds."""
    if p.deeds != q.deeds:
        raise Mismatch()


def _shared(pairs, others):
    """The pairs that stand among the others, too."""
    known = {pair: True for pair in others}
    return [pair for pair in pairs if pair in known]


def _items(order):
    """What stands in the text of an order."""
    linked = [deed for link in order.links for deed in link]
    links = [f"{first} < {second}" for first, second in order.links]
    return [*links, *[deed for deed in order.deeds if deed not in linked]]


def _check_deeds(block, deeds, kinds):
    """Raises an error for any value that is no sequence of deeds of these kinds, each once, that the block can do."""
    if not _are_deeds(deeds) or not all([kind_of(deed) in kinds for deed in deeds]):
        raise InvalidOrder("deeds")
    for deed in deeds:
        if kind_of(deed) in POWERED_DEEDS and f"power {name_of(deed)}" not in deeds:
            raise InvalidOrder("deeds")
    for deed in deeds:
        names = block.fences if kind_of(deed) in FENCE_DEEDS else block.areas
        if name_of(deed) and name_of(deed) not in names:
            raise Mismatch()


def _asleep(cell, deeds):
    """The part of a cell ahead of a waking by these deeds."""
    shown = cell.seen and cell.fence is None
    if f"power {cell.area}" in deeds:
        return False, UNKNOWN, keeper_part(cell, RIGHT), shown
    return True, RIGHT, keeper_part(cell, UNKNOWN), shown


def _order_of(deeds, pairs):
    """The order of the deeds with these pairs, or None if a pair is None or has a deed that is not there."""
    for pair in pairs:
        if pair is None or not all([deed in deeds for deed in pair]):
            return None
    return Order(deeds, pairs)


def _sleep_pairs(block, deeds):
    """Which deed of a sleep must come ahead of which one; None for what nothing can make safe."""
    pairs = []
    for watch in bit_watches(block) + signal_watches(block):
        if f"cut {watch.cell.area}" in deeds:
            pairs.extend(_cut_pairs(watch.cell))
    return pairs


def _cut_pairs(cell):
    """What the cut of its area asks of a cell."""
    cut = f"cut {cell.area}"
    save = f"save {cell.area}"
    if cell.seen:
        return [None if cell.fence is None else (f"fence {cell.fence}", cut)]
    if not cell.kept:
        return [("hold", cut)]
    return [("hold", cut), ("hold", save), (save, cut), *_needed(cell.keeper)]


def _wake_pairs(block, deeds):
    """Which deed of a waking must come ahead of which one; None for what nothing can make safe."""
    pairs = []
    for watch in bit_watches(block) + signal_watches(block):
        cell = watch.cell
        if f"power {cell.area}" in deeds:
            user = f"open {cell.fence}" if cell.seen else "go"
            # What is always open shows the bit as long as it is unknown.
            pairs.extend(_needed(not cell.seen or cell.fence is not None))
            if user in deeds:
                pairs.extend(_use_pairs(cell, user, deeds))
    return pairs


def _use_pairs(cell, user, deeds):
    """What a deed that needs the bit asks of a cell whose area is powered by these deeds."""
    power, reset, load = f"power {cell.area}", f"reset {cell.area}", f"load {cell.area}"
    if not cell.kept:
        return [(power, reset), (reset, user), *_needed(cell.start)]
    pairs = [(power, load), (load, user), *_needed(cell.keeper)]
    # A reset of a kept bit sets it to another value.
    return [*pairs, (reset, load)] if cell.start and reset in deeds else pairs


def _needed(given):
    """Nothing, or None in the place of a pair if what is needed is not given."""
    return [] if given else [None]
