"""Deciding: what happens in all sequences of events."""

from wakesafe.errors import NoRule
from wakesafe.watches import Travels, check_goal, plain_watch, watches_of
from wakesafe.words import GOALS, ascending


def happens(block, machine, goal, without=()):
    """Whether some sequence of events meets the goal."""
    check_goal(goal)
    return _is_met(Travels(block, machine, without), goal)


def least(block, machine, goal, without=()):
    """A tuple of the fewest events that meet the goal, or None."""
    check_goal(goal)
    travels = Travels(block, machine, without)
    shortest = None
    for watch in watches_of(block, goal):
        way = travels.journey(watch).way(goal)
        if way is not None and (shortest is None or len(way) < len(shortest)):
            shortest = way
    return shortest


def goals(block, machine, without=()):
    """The goals that happen."""
    travels = Travels(block, machine, without)
    return tuple([goal for goal in GOALS if _is_met(travels, goal)])


def comes(block, machine, at, without=()):
    """Whether some sequence of events leads to the rule with this index."""
    travels = Travels(block, machine, without)
    if not 0 <= at < len(machine.rules):
        raise NoRule(at)
    for control, _ in travels.journey(plain_watch()).nodes:
        if at in [course.rule for _, course in travels.study.courses(control)]:
            return True
    return False


def culprits(block, machine, goal, without=()):
    """The watches on which the goal happens."""
    check_goal(goal)
    travels = Travels(block, machine, without)
    return ascending([watch.name for watch in watches_of(block, goal) if goal in travels.journey(watch).ways])


def _is_met(travels, goal):
    """Whether the goal is met on some watch."""
    for watch in watches_of(travels.block, goal):
        if goal in travels.journey(watch).ways:
            return True
    return False
