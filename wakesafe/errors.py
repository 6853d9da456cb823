"""The errors of the package."""


class WakeError(ValueError):
    """The base class of the errors below, but for the last two."""


class InvalidFormula(WakeError):
    """An argument of a formula is wrong."""

    def __init__(self, word):
        self.word = word


class InvalidBlock(WakeError):
    """An argument of a bit, a signal or a block is wrong."""

    def __init__(self, word):
        self.word = word


class InvalidMachine(WakeError):
    """An argument of a rule or a machine is wrong."""

    def __init__(self, word):
        self.word = word


class InvalidOrder(WakeError):
    """Some deeds, or the pairs of an order, are wrong."""

    def __init__(self, word):
        self.word = word


class InvalidText(WakeError):
    """A text cannot be read: a word, a line or an item of it is wrong."""

    def __init__(self, at):
        self.at = at


class InvalidEvent(WakeError):
    """An item of a sequence of events is no event of the block."""

    def __init__(self, at):
        self.at = at


class InvalidGoal(WakeError):
    """A value is no goal."""


class InvalidCommand(WakeError):
    """A command has no such form, or cannot be done now."""


class Mismatch(WakeError):
    """Two things do not go together."""


class Refused(WakeError):
    """One of several events was refused."""

    def __init__(self, at):
        self.at = at


class NoRule(IndexError):
    """A machine has no rule with an index."""

    def __init__(self, at):
        self.at = at


class NoName(KeyError):
    """There is nothing with a name."""

    def __init__(self, name):
        self.name = name
