"""Blocks: bits in areas, and signals at the edge."""

from wakesafe.errors import InvalidBlock, InvalidText, NoName
from wakesafe.formulas import Formula
from wakesafe.words import ascending, is_name, is_sequence

MARKS = ("kept", "keeper", "start")


class Bit:
    """A bit of an area."""

    def __init__(self, name, area, kept=False, keeper=False, start=False):
        if not is_name(name):
            raise InvalidBlock("name")
        if not is_name(area):
            raise InvalidBlock("area")
        if not isinstance(kept, bool):
            raise InvalidBlock("kept")
        if not isinstance(keeper, bool) or (keeper and not kept):
            raise InvalidBlock("keeper")
        if not isinstance(start, bool):
            raise InvalidBlock("start")
        self.name = name
        self.area = area
        self.kept = kept
        self.keeper = keeper
        self.start = start

    def __eq__(self, other):
        return isinstance(other, Bit) and str(self) == str(other)

    def __str__(self):
        return " ".join(["bit", self.name, self.area, *_marks(self)])


class Signal:
    """A signal at the edge, behind a fence or without one."""

    def __init__(self, name, formula, fence=None):
        if not is_name(name):
            raise InvalidBlock("name")
        if not isinstance(formula, Formula):
            raise InvalidBlock("formula")
        if fence is not None and not is_name(fence):
            raise InvalidBlock("fence")
        self.name = name
        self.formula = formula
        self.fence = fence

    def __eq__(self, other):
        # The steps tell the text, and stay small where the text may be very long.
        if not isinstance(other, Signal):
            return False
        return (self.name, self.fence, self.formula.steps) == (other.name, other.fence, other.formula.steps)

    def __str__(self):
        return " ".join(["signal", self.name, "none" if self.fence is None else self.fence, str(self.formula)])


class Block:
    """Some bits, and signals that are computed from them."""

    def __init__(self, bits, signals=()):
        if not is_sequence(bits) or len(bits) == 0 or not all([isinstance(bit, Bit) for bit in bits]):
            raise InvalidBlock("bits")
        if not is_sequence(signals) or not all([isinstance(signal, Signal) for signal in signals]):
            raise InvalidBlock("signals")
        self.bits = tuple(bits)
        self.signals = tuple(signals)
        self.areas = ascending([bit.area for bit in bits])
        self.fences = ascending([signal.fence for signal in signals if signal.fence is not None])
        _check_names(self)

    @classmethod
    def read(cls, text):
        """The block with this text."""
        bits = []
        signals = []
        for at, line in enumerate(text.split("\n")):
            bit = None if signals else _read_bit(line)
            signal = _read_signal(line)
            if bit is not None:
                bits.append(bit)
            elif signal is not None:
                signals.append(signal)
            else:
                raise InvalidText(at)
        return cls(bits, signals)

    def bit(self, name):
        """The bit with this name."""
        for bit in self.bits:
            if bit.name == name:
                return bit
        raise NoName(name)

    def signal(self, name):
        """The signal with this name."""
        for signal in self.signals:
            if signal.name == name:
                return signal
        raise NoName(name)

    def keeping(self, names):
        """The block in which the bits with these names alone have their keepers."""
        for name in names:
            self.bit(name)
        return Block([bit if bit.name in names else _without_keeper(bit) for bit in self.bits], self.signals)

    def fencing(self, names):
        """The block in which the signals with these names alone have their fences."""
        for name in names:
            self.signal(name)
        signals = [signal if signal.name in names else _without_fence(signal) for signal in self.signals]
        return Block(self.bits, signals)

    def __len__(self):
        return len(self.bits)

    def __add__(self, other):
        if not isinstance(other, Block):
            return NotImplemented
        return Block(self.bits + other.bits, self.signals + other.signals)

    def __eq__(self, other):
        return isinstance(other, Block) and self.bits == other.bits and self.signals == other.signals

    def __str__(self):
        return "\n".join([str(part) for part in (*self.bits, *self.signals)])


def _marks(bit):
    """The words behind the area in the text of a bit."""
    marked = (bit.kept, bit.keeper, bit.start)
    return [mark for mark, is_so in zip(MARKS, marked) if is_so]


def _check_names(block):
    """Raises an error for a name that stands twice, or that is no bit's."""
    bits = [bit.name for bit in block.bits]
    signals = [signal.name for signal in block.signals]
    if len(ascending(bits)) < len(bits) or len(ascending(signals)) < len(signals):
        raise InvalidBlock("name")
    for signal in block.signals:
        if not all([name in bits for name in signal.formula.names]):
            raise InvalidBlock("formula")


def _without_keeper(bit):
    """The same bit without a keeper."""
    return Bit(bit.name, bit.area, bit.kept, False, bit.start)


def _without_fence(signal):
    """The same signal without a fence."""
    return Signal(signal.name, signal.formula)


def _read_bit(line):
    """The bit with this text, or None."""
    words = line.split(" ")
    marks = words[3:]
    if words[0] != "bit" or len(words) < 3 or marks != [mark for mark in MARKS if mark in marks]:
        return None
    try:
        return Bit(words[1], words[2], "kept" in marks, "keeper" in marks, "start" in marks)
    except InvalidBlock:
        return None


def _read_signal(line):
    """The signal with this text, or None."""
    words = line.split(" ")
    if words[0] != "signal" or len(words) < 4:
        return None
    fence = None if words[2] == "none" else words[2]
    try:
        return Signal(words[1], Formula.read(" ".join(words[3:])), fence)
    except (InvalidBlock, InvalidText):
        return None
