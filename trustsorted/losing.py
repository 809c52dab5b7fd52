"""Which names get lost: those that find does not find in some file, though a row like them is there.

Find loses a name if it goes the wrong way at a row. A row that is alike to
the name, and this one, are enough for it: if this one is before the name, it
is looked at first in a file of the two; if it is behind, in a file in which it
stands twice, ahead of the other one. So a name gets lost if a name that is
alike to it, its twin, stands to another one, the guide, one way by the rule of
find, and not so by the rule of the file.
"""

from trustsorted.checks import check_full, check_rule
from trustsorted.lore import Lore
from trustsorted.sets import Names
from trustsorted.simplify import simplified, stronger_states
from trustsorted.tables import gone_through, is_nowhere, least_states, least_table, subset_states
from trustsorted.trackers import DONE, ENDED, Lead

TWIN = 0
GUIDE = 1
NOWHERE = (-1, ())
FREE = ()


class Twins:
    """Reads names sign by sign, together with all guides by which they are twins of lost names.

    Where reading stands is told by (state of the house, guides). A guide is
    (way, place of the machine, states of the trackers of this way). Where all
    that is asked of a guide is sure, FREE stands in the place of them.
    """

    def __init__(self, house, rule, other):
        self.signs = list(range(len(house.signs)))
        self.machine = simplified(house.machine)
        self.stronger = stronger_states(self.machine)
        self.ends, self.moves = subset_states(self.machine, len(house.signs))
        self.finding = Lore(house, other, [])
        sorting = Lore(house, rule, [])
        self.ways = [
            (Lead(self.finding, 1, GUIDE, TWIN, False), Lead(sorting, 0, TWIN, GUIDE, True)),
            (Lead(self.finding, 1, TWIN, GUIDE, False), Lead(sorting, 0, GUIDE, TWIN, True)),
        ]
        self.stepped = {}

    def begin(self):
        """Where reading begins."""
        guides = []
        for way, (first, second) in enumerate(self.ways):
            guides.extend([(way, place, first.first, second.first) for place in self.machine.starts])
        return (0, self.thinned(guides))

    def behind(self, stand, sign):
        """Where reading stands behind a sign."""
        state = -1 if stand == NOWHERE else self.moves[stand[0]][sign]
        if state == -1 or is_nowhere(self.ends, self.moves, state):
            return NOWHERE
        if stand[1] == FREE:
            return (state, FREE)
        guides = {}
        for guide in stand[1]:
            for after in self.steps(guide, sign):
                guides[after] = True
        if any([guide[2:] == (DONE, DONE) for guide in guides]):
            return (state, FREE)
        return (state, self.thinned(list(guides))) if guides else NOWHERE

    def can_end(self, stand):
        """Whether a name that ends here is the twin of a lost name."""
        if stand == NOWHERE or not self.ends[stand[0]]:
            return False
        return stand[1] == FREE or any([bool(self.steps(guide, ENDED)) for guide in stand[1]])

    def steps(self, guide, sign):
        """The guides behind a sign of the twin, or ENDED in its place."""
        key = (guide, sign)
        if key not in self.stepped:
            self.stepped[key] = self.new_steps(guide, sign)
        return self.stepped[key]

    def new_steps(self, guide, sign):
        """The same, worked out."""
        way, place, first, second = guide
        choices = [(letter, after) for letter in self.signs for after in self.machine.moves[place][letter]]
        if self.machine.ends[place]:
            choices.append((ENDED, place))
        guides = {}
        for letter, after in choices:
            for one in self.tracked(self.ways[way][0], first, sign, letter):
                for two in self.tracked(self.ways[way][1], second, sign, letter):
                    guides[(way, after, one, two)] = True
        return list(guides)

    def tracked(self, tracker, state, sign, letter):
        """The states of a tracker behind a sign of the twin and one of the guide."""
        low, high = (sign, letter) if tracker.low == TWIN else (letter, sign)
        return [after for after, known in tracker.steps(state, low, high, tracker.lore.start)]

    def thinned(self, guides):
        """The guides without those for which others can stand in."""
        kept = []
        for guide in sorted(guides):
            if not any([self.stands_in(other, guide) for other in kept]):
                kept = [other for other in kept if not self.stands_in(guide, other)] + [guide]
        return tuple(sorted(kept))

    def stands_in(self, guide, other):
        """Whether one guide can follow whatever another one can."""
        if guide[0] != other[0] or not self.stronger[guide[1]][other[1]]:
            return False
        trackers = self.ways[guide[0]]
        return all([trackers[at].is_at_least(guide[2 + at], other[2 + at]) for at in (0, 1)])

    def alike_signs(self):
        """For each sign those that the rule of find calls alike to it."""
        ranked = self.ways[0][0].ranked
        marks = [tuple([self.finding.first_alike(number, sign) for number in ranked]) for sign in self.signs]
        return [[letter for letter in self.signs if marks[letter] == mark] for mark in marks]


class Losses:
    """Reads names sign by sign, together with all their twins.

    Where reading stands is told by (state of the house, states of the machine
    that reads the twins).
    """

    def __init__(self, twins):
        self.house_ends = twins.ends
        self.house_moves = twins.moves
        self.alike = twins.alike_signs()
        ends, moves = gone_through(twins, len(twins.signs))
        self.ends, self.moves = least_states(ends, moves)

    def begin(self):
        """Where reading begins."""
        return (0, (0,))

    def behind(self, stand, sign):
        """Where reading stands behind a sign."""
        state, twins = stand
        afters = sorted(set([self.moves[twin][letter] for twin in twins for letter in self.alike[sign]]))
        afters = [after for after in afters if not is_nowhere(self.ends, self.moves, after)]
        return (self.house_moves[state][sign], tuple(afters))

    def can_end(self, stand):
        """Whether a name that ends here gets lost."""
        return self.house_ends[stand[0]] and any([self.ends[twin] for twin in stand[1]])


def lost(house, rule, other):
    """The set of the names that find, by the other rule, does not find in all files listed by the first one."""
    check_full(house)
    check_rule(house, rule)
    check_rule(house, other)
    ends, moves = gone_through(Losses(Twins(house, rule, other)), len(house.signs))
    return Names(house.signs, least_table(ends, moves))
