"""Papers: proofs that a goal never happens, which anybody can check."""

from wakesafe.cells import CONTENTS, NO_KEEPER
from wakesafe.watches import BIT_SIZE, PLAIN_SIZE, SIGNAL_SIZE, Graph, Study, Travels, check_goal, watches_of


def paper(block, machine, goal, without=()):
    """A right paper for the goal, or None if the goal happens."""
    check_goal(goal)
    travels = Travels(block, machine, without)
    told = []
    for watch in watches_of(block, goal):
        journey = travels.journey(watch)
        if goal in journey.ways:
            return None
        told.append((watch.name, tuple([_standing(watch, node) for node in journey.nodes])))
    return tuple(told)


def paper_holds(block, machine, goal, value, without=()):
    """Whether any value is a right paper for the goal."""
    check_goal(goal)
    study = Study(block, machine, without)
    watches = watches_of(block, goal)
    if not _is_told(value, [watch.name for watch in watches]):
        return False
    told = dict(value)
    graphs = {}
    for watch in watches:
        if not all([_is_standing(machine, watch, standing) for standing in told[watch.name]]):
            return False
        shape = () if watch.cell is None else watch.cell.shape
        if shape not in graphs:
            graphs[shape] = Graph(study, watch.cell)
        if not _is_closed(graphs[shape], goal, [_node(watch, standing) for standing in told[watch.name]]):
            return False
    return True


def _standing(watch, node):
    """The standing on a watch for a node of its graph."""
    control, part = node
    return (control + part)[:watch.size]


def _node(watch, standing):
    """The node of the graph of a watch for a standing."""
    control, part = standing[:PLAIN_SIZE], standing[PLAIN_SIZE:]
    # The cell of a bit has no signal that could be open.
    return control, part + (False,) if watch.size == BIT_SIZE else part


def _is_told(value, names):
    """Whether any value is a tuple of pairs, one for each of these watches, of the watch and a tuple."""
    if not isinstance(value, tuple) or len(value) != len(names):
        return False
    for pair in value:
        if not isinstance(pair, tuple) or len(pair) != 2 or not isinstance(pair[1], tuple):
            return False
    found = [pair[0] for pair in value]
    return all([name in found for name in names])


def _is_standing(machine, watch, value):
    """Whether any value is a standing on a watch."""
    if not isinstance(value, tuple) or len(value) != watch.size:
        return False
    if value[0] not in machine.states or not all([isinstance(flag, bool) for flag in value[1:PLAIN_SIZE]]):
        return False
    return watch.cell is None or _is_part(watch, value[PLAIN_SIZE:])


def _is_part(watch, value):
    """Whether a tuple is what a standing tells about the bit and the signal of a watch."""
    powered, content, keeper, *shown = value
    if not isinstance(powered, bool) or content not in CONTENTS:
        return False
    if keeper not in (CONTENTS if watch.cell.keeper else (NO_KEEPER,)):
        return False
    if watch.size == SIGNAL_SIZE and watch.cell.fence is None:
        return shown[0] is True
    return all([isinstance(flag, bool) for flag in shown])


def _is_closed(graph, goal, nodes):
    """Whether the first node is there, what comes behind each one is, too, and none leads to the goal."""
    known = {node: True for node in nodes}
    if graph.first not in known:
        return False
    for node in known:
        for _, after, met in graph.onward(node):
            if goal in met or after not in known:
                return False
    return True
