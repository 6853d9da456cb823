"""Desks: commands that are texts, with answers that are texts."""

from wakesafe.bench import Bench
from wakesafe.blocks import Block
from wakesafe.deciding import goals, least
from wakesafe.errors import InvalidCommand
from wakesafe.machines import Machine
from wakesafe.orders import sleep_order, wake_order
from wakesafe.words import is_kind

# The fewest and the most words behind the first word of a command (None for as many as there are).
MANY = {
    "block": (1, None),
    "machine": (1, None),
    "take": (1, 2),
    "bits": (0, 0),
    "goals": (0, None),
    "least": (1, 1),
    "sleep": (1, None),
    "wake": (1, None),
    "undo": (0, 0),
}
WITHOUT_BLOCK = ("block",)
WITHOUT_MACHINE = ("block", "machine", "sleep", "wake")


def _block(desk, rest):
    block = Block.read(_lines(rest))
    desk.block = block
    desk.bench = None
    return str(len(block))


def _machine(desk, rest):
    machine = Machine.read(_lines(rest))
    desk.bench = Bench(desk.block, machine)
    return str(len(machine))


def _take(desk, rest):
    answered, view = desk.bench.take(rest)
    return " ".join(["answered" if answered else "-", *view])


def _bits(desk, _):
    contents = desk.bench.played.contents
    return " ".join(list(contents.values()))


def _goals(desk, rest):
    kinds = rest.split(" ") if rest else []
    if not all([is_kind(kind) for kind in kinds]):
        raise InvalidCommand()
    found = goals(desk.block, desk.bench.machine, kinds)
    return " ".join(found) if found else "none"


def _least(desk, rest):
    events = least(desk.block, desk.bench.machine, rest)
    return "never" if events is None else ", ".join(events)


def _sleep(desk, rest):
    return _told(sleep_order(desk.block, rest.split(", ")))


def _wake(desk, rest):
    return _told(wake_order(desk.block, rest.split(", ")))


def _undo(desk, _):
    return "undone" if desk.bench.undo() else "nothing"


COMMANDS = {
    "block": _block,
    "machine": _machine,
    "take": _take,
    "bits": _bits,
    "goals": _goals,
    "least": _least,
    "sleep": _sleep,
    "wake": _wake,
    "undo": _undo,
}


class Desk:
    """A block and a bench, if there are any yet, that do commands."""

    def __init__(self):
        self.block = None
        self.bench = None

    def say(self, command):
        """Does a command, and returns its result."""
        word, rest = _parted(command)
        if self.block is None and word not in WITHOUT_BLOCK:
            raise InvalidCommand()
        if self.bench is None and word not in WITHOUT_MACHINE:
            raise InvalidCommand()
        action = COMMANDS[word]
        return action(self, rest)


def _parted(command):
    """The first word of a command, and what stands behind it; an error for what has no such form."""
    if not isinstance(command, str) or "\n" in command:
        raise InvalidCommand()
    words = command.split(" ")
    if "" in words or words[0] not in MANY:
        raise InvalidCommand()
    fewest, most = MANY[words[0]]
    behind = len(words) - 1
    if behind < fewest or (most is not None and behind > most):
        raise InvalidCommand()
    return words[0], " ".join(words[1:])


def _lines(text):
    """The text with its newlines."""
    return text.replace(" ; ", "\n")


def _told(order):
    """The text of an order, or what stands for none."""
    return "never" if order is None else str(order)
