"""Needs: which fences and keepers of a block, and which rules of a machine, are needed."""

from wakesafe.alike import Comparison
from wakesafe.scenes import Scene
from wakesafe.watches import Study, Travels, watches_of
from wakesafe.words import ascending


def needed_fences(block, machine, without=()):
    """The fewest signals that must keep their fences if nothing unknown or wrong is to be seen, or None."""
    travels = Travels(block, machine, without)
    with_fence = _bad_signals(travels, block)
    return _needed(with_fence, _bad_signals(travels, block.fencing(())))


def needed_keepers(block, machine, without=()):
    """The fewest bits that must keep their keepers if no bit is to be lost, or unknown where it matters, or None."""
    travels = Travels(block, machine, without)
    with_keeper = _bad_bits(travels, block)
    return _needed(with_keeper, _bad_bits(travels, block.keeping(())))


def needless_rules(block, machine, without=()):
    """The indexes of the rules without which, each alone, the machine looks the same from outside."""
    study = Study(block, machine, without)
    scene = Scene(block)
    found = []
    for at in range(len(machine.rules)):
        lesser = Study(block, machine.without(at), without)
        if Comparison(scene, study, lesser).first_difference() is None:
            found.append(at)
    return tuple(found)


def _needed(bad_with, bad_bare):
    """The names that go wrong only if they have nothing, or None if some name goes wrong anyhow."""
    # What helps a name may also harm it: then the name does without.
    if [name for name in bad_bare if name in bad_with]:
        return None
    return bad_bare


def _bad_signals(travels, block):
    """The names of the signals outside of which something unknown or wrong is seen."""
    return ascending([watch.name[0] for watch in _bad_watches(travels, block, ("leak", "wrong"))])


def _bad_bits(travels, block):
    """The names of the bits that meet a goal, by themselves or seen through a signal."""
    alone = [watch.name for watch in _bad_watches(travels, block, ("blind", "lost"))]
    return ascending(alone + [watch.name[1] for watch in _bad_watches(travels, block, ("leak", "wrong"))])


def _bad_watches(travels, block, goals):
    """The watches of a block on which one of these goals is met."""
    found = []
    for goal in goals:
        found.extend([watch for watch in watches_of(block, goal) if goal in travels.journey(watch).ways])
    return found
