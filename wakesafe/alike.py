"""Alike: whether two machines look the same from outside, in all sequences of events."""

from wakesafe.scenes import FIRST_PLACE, Scene
from wakesafe.watches import Study


class Groups:
    """Things in groups, at first each by itself."""

    def __init__(self):
        self.above = {}

    def unite(self, one, other):
        """Makes one group of the groups of two things, and returns whether these were two groups."""
        first, second = self._head(one), self._head(other)
        if first == second:
            return False
        self.above[first] = second
        return True

    def _head(self, thing):
        """The thing that stands for the group of a thing."""
        while thing in self.above:
            higher = self.above[thing]
            # Each look makes the way shorter, so that the ways never get long.
            self.above[thing] = self.above.get(higher, higher)
            thing = higher
        return thing


class Comparison:
    """Two machines side by side, before the same scene.

    A pair of stands tells how both stand: the control and the place of the
    first one, then those of the second one. A stand by itself is written with
    a 0 or a 1 in front, for the machine. Stands that came side by side are put
    into one group. A pair within a group need not be followed: whatever shows
    a difference behind it shows one, with as few events, behind one of the
    pairs that made this group, and these came no later.
    """

    def __init__(self, scene, p_study, q_study):
        self.scene = scene
        self.p_study = p_study
        self.q_study = q_study
        self.roads = {}

    def first_difference(self):
        """A tuple of the fewest events that show a difference, or None."""
        first = (self.p_study.first, FIRST_PLACE, self.q_study.first, FIRST_PLACE)
        groups = Groups()
        groups.unite((0, *first[:2]), (1, *first[2:]))
        pairs = [first]
        origins = [None]
        at = 0
        while at < len(pairs):
            pair = pairs[at]
            for event, shows, after in self._onward(pair):
                if shows:
                    return _way(origins, (at, event))
                if groups.unite((0, *after[:2]), (1, *after[2:])):
                    pairs.append(after)
                    origins.append((at, event))
            at += 1
        return None

    def _onward(self, pair):
        """What may come next: triples of an event, whether it shows a difference, and the pair behind it."""
        p_control, p_place, q_control, q_place = pair
        found = []
        for event, differ, p_after, p_change, q_after, q_change in self._roads_from(p_control, q_control):
            p_end = self.scene.behind(p_place, p_change)
            q_end = self.scene.behind(q_place, q_change)
            shows = differ or self.scene.seen_at(p_end) != self.scene.seen_at(q_end)
            found.append((event, shows, (p_after, p_end, q_after, q_end)))
        return found

    def _roads_from(self, p_control, q_control):
        """The events that differ here, each with whether one machine answers alone, and what it does to both."""
        key = (p_control, q_control)
        if key not in self.roads:
            roads = {}
            p_courses = self.p_study.courses(p_control)
            q_courses = self.q_study.courses(q_control)
            for (event, p_course), (_, q_course) in zip(p_courses, q_courses):
                road = (p_course.answered != q_course.answered, p_course.after, self.scene.change(p_course.acts),
                        q_course.after, self.scene.change(q_course.acts))
                roads.setdefault(road, event)
            self.roads[key] = [(event, *road) for road, event in roads.items()]
        return self.roads[key]


def alike(block, p, q, without=()):
    """Whether two machines show the same on each event of each sequence of events."""
    return parting(block, p, q, without) is None


def parting(block, p, q, without=()):
    """A tuple of the fewest events whose last one does not show the same, or None."""
    p_study, q_study = Study(block, p, without), Study(block, q, without)
    return Comparison(Scene(block), p_study, q_study).first_difference()


def _way(origins, last):
    """The events that led to a pair, and the one behind it."""
    events = []
    while last is not None:
        at, event = last
        events.append(event)
        last = origins[at]
    return tuple(events[::-1])
