"""Where a search for names stands, and what still counts there."""

from trustsorted.lengths import rest_lengths
from trustsorted.simplify import chained, shortest_tails, simplified
from trustsorted.trackers import DONE


class Setting:
    """What all searches of one question have in common.

    The names are told by their numbers: first those that are given, as many
    as `given`, then those that are looked for. For the states of the machine,
    `tails` tells shortest rests of names, and `lengths` how long the rests
    can be. `columns` are the moves of each sign, `free_columns` those without
    the names that are given.
    """

    def __init__(self, house, given, many):
        free = simplified(house.machine)
        signs = list(range(len(house.signs)))
        self.given = len(given)
        self.names = list(range(len(given) + many))
        self.machine, self.begins = chained(free, [[house.signs.index(sign) for sign in name] for name in given])
        self.tails = shortest_tails(self.machine)
        self.lengths = rest_lengths(self.machine)
        self.columns = [tuple([row[sign] for row in self.machine.moves]) for sign in signs]
        self.free_columns = [tuple([row[sign] for row in free.moves]) for sign in signs]


class Node:
    """How far names are read.

    `places` are the states of the machine, or ENDED, for each name, `states`
    those of the trackers. `known` is what has to be known of each rule, as
    far as it counts for what is still to come, and `told` all that had to be
    known for this step. `tails` are the signs that were read last, `depth` is
    how many steps were made, and the longest of the names that are looked for
    is at least as long as `floor`. `pending` are the steps that are still to
    be made from there, None as long as none was, and `marks` tell which signs
    could stand in the places of which. A node that is idle is not gone on with.
    """

    def __init__(self, places, states, known):
        self.places = places
        self.states = states
        self.known = known
        self.told = known
        self.tails = tuple([() for place in places])
        self.floor = 0
        self.depth = 0
        self.parent = None
        self.is_idle = False
        self.pending = None
        self.marks = []


class Outlook:
    """What counts for what is still to come, where trackers are in certain states.

    `live` tells for each name whether a tracker still follows it, `needs` for
    each rule the numbers of the passes of which it counts what is known, and
    `masks` the bits of these passes. `is_tied` tells whether one of the names
    that are given, as many as `given`, is still followed.
    """

    def __init__(self, lores, given, many, trackers, states):
        self.live = [False] * many
        self.needs = [[] for lore in lores]
        for tracker, state in zip(trackers, states):
            if state != DONE:
                self.live[tracker.low] = True
                self.live[tracker.high] = True
                self.needs[tracker.place].extend(tracker.needed(state))
        self.needs = [tuple(sorted(set(numbers))) for numbers in self.needs]
        self.is_tied = any(self.live[:given])
        self.masks = []
        for lore, numbers in zip(lores, self.needs):
            self.masks.append(sum([lore.pass_bits(number) for number in numbers]))
