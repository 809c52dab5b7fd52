"""Where a search for names stands, and what still counts there."""

from trustsorted.trackers import DONE


class Node:
    """How far names are read.

    `way` is the number of the way, `places` are the states of the machine, or
    ENDED, for each name, `states` those of the trackers. `known` is what has
    to be known of each rule, as far as it counts for what is still to come,
    and `told` all that had to be known for this step. `tails` are the signs
    that were read last, `depth` is how many steps were made, and the longest
    name is at least as long as `floor`.
    """

    def __init__(self, way, places, states, known):
        self.way = way
        self.places = places
        self.states = states
        self.known = known
        self.told = known
        self.tails = ()
        self.floor = 0
        self.depth = 0
        self.parent = None
        self.is_idle = False


class Outlook:
    """What counts for what is still to come, where trackers are in certain states.

    `live` tells for each name whether a tracker still follows it, `needs` for
    each rule the numbers of the passes of which it counts what is known, and
    `masks` the bits of these passes.
    """

    def __init__(self, lores, many, trackers, states):
        self.live = [False] * many
        self.needs = [[] for lore in lores]
        for tracker, state in zip(trackers, states):
            if state != DONE:
                self.live[tracker.low] = True
                self.live[tracker.high] = True
                self.needs[tracker.place].extend(tracker.needed(state))
        self.needs = [tuple(sorted(set(numbers))) for numbers in self.needs]
        self.masks = []
        for lore, numbers in zip(lores, self.needs):
            self.masks.append(sum([lore.pass_bits(number) for number in numbers]))
