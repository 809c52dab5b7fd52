"""The search for shortest names that stand to one another as is asked for.

All names are read together, one sign of each at a time. A node tells how far
they are read, and what must be known of the ranks for it; a node that asks
for no less than another one, and is no shorter, is left out. So there are but
finitely many of them, and when all are gone through there are no such names
of any length.
"""

from trustsorted.lengths import least_of, up_to
from trustsorted.nodes import Node, Outlook
from trustsorted.simplify import ENDLESS
from trustsorted.trackers import DONE, ENDED


class Search:
    """One search for names that stand to one another as trackers ask for.

    The longest of the names that are looked for has to be shorter than
    `limit`; all that are not longer than `floor` count as short as this.
    `starts` is what is known of each rule at first. `closers` are the numbers
    of the names that come last of those that each tracker follows; in this
    sequence the trackers stand. `best` is the last node of the shortest answer
    that was found.
    """

    def __init__(self, setting, lores, trackers, floor, limit):
        self.setting = setting
        self.machine = setting.machine
        self.given = setting.given
        self.names = setting.names
        self.lores = lores
        self.starts = tuple([lore.start for lore in lores])
        self.trackers = [
            tracker for name in self.names for tracker in trackers if max(tracker.low, tracker.high) == name
        ]
        self.closers = [max(tracker.low, tracker.high) for tracker in self.trackers]
        self.floor = floor
        self.limit = limit
        self.best = None
        self.queues = {}
        self.rests = {}
        self.reached = {}
        self.choices = {}
        self.outlooks = {}

    def first_nodes(self):
        """The nodes at which nothing is read, but names that do not count at all."""
        states = tuple([tracker.first for tracker in self.trackers])
        live = self.outlook(states).live
        shortest = min([self.setting.tails[place] for place in self.machine.starts], key=len)
        places = [()]
        for name in self.names:
            begins = self.machine.starts if name >= self.given else (self.setting.begins[name],)
            places = [told + (place,) for told in places for place in (begins if live[name] else (ENDED,))]
        nodes = [Node(told, states, self.starts) for told in places]
        for node in nodes:
            node.tails = tuple([
                () if is_live or name < self.given else shortest for name, is_live in enumerate(live)
            ])
            node.floor = max([self.floor] + [len(tail) for tail in node.tails])
        return nodes

    def run(self):
        """Find the last node of a shortest answer; `best` is None if there is none.

        The nodes of which the shortest answers can come are gone on with
        first, of these the one that came last.
        """
        for node in self.first_nodes():
            self.enter(node)
        while self.queues:
            bound = min(list(self.queues))
            if bound >= self.limit:
                break
            node = self.queues[bound][-1]
            if node.is_idle or not self.goes_on(node, bound):
                self.queues[bound].pop()
                if not self.queues[bound]:
                    del self.queues[bound]

    def enter(self, node):
        """Keep a node to go on with it, if an answer may come of it that no other one gives.

        Returns how short this answer may be, ENDLESS if the node is not kept.
        """
        last = node if self.can_end(node) else self.last_node(node)
        if last is not None:
            if node.floor < self.limit:
                self.best = last
                self.limit = node.floor
            return ENDLESS
        rest = self.rest(node)
        if rest is None:
            return ENDLESS
        bound = max(node.floor, node.depth + rest)
        if bound >= self.limit or not self.is_new(node):
            return ENDLESS
        self.queues.setdefault(bound, []).append(node)
        return bound

    def last_node(self, node):
        """A node behind which all is sure, if all names that are looked for end; None if there is none."""
        if not self.outlook(node.states).is_tied:
            return None
        steps = [((), (), (), node.known)]
        while steps:
            step = steps.pop()
            if self.is_whole(step):
                return self.child(node, step)
            ends = self.is_due(step) or len(step[0]) < self.given
            steps.extend([more for more in self.further(node, step) if ends or more[0][-1] == ENDED])
        return None

    def rest(self, node):
        """How many signs the longest name will surely have still; None if the names cannot end."""
        key = (node.places, node.states)
        if key not in self.rests:
            self.rests[key] = self.new_rest(node)
        return self.rests[key]

    def new_rest(self, node):
        """The same, worked out by the lengths that names can have beside one another."""
        lengths = [1 if place == ENDED else self.setting.lengths[place] for place in node.places]
        told = self.lengths_beside(node.states, lengths)
        if told is None:
            return None
        most = max([1] + [least_of(some) for some in told[self.given:]])
        while self.lengths_beside(node.states, lengths[:self.given] + self.shortened(lengths, most)) is None:
            most = most + 1
        return most

    def shortened(self, lengths, most):
        """The lengths of the names that are looked for, up to a greatest one."""
        return [told & up_to(most) for told in lengths[self.given:]]

    def lengths_beside(self, states, lengths):
        """Those of some lengths that the rests of names can have beside one another; None if there are none."""
        told = list(lengths)
        earlier = []
        while earlier != told:
            earlier = list(told)
            for tracker, state in zip(self.trackers, states):
                if state != DONE and told[tracker.low] and told[tracker.high]:
                    low, high = tracker.beside(state, told[tracker.low], told[tracker.high])
                    told[tracker.low] = low
                    told[tracker.high] = high
        return told if all([some > 0 for some in told]) else None

    def goes_on(self, node, bound):
        """Read one sign more of each name, in one way after the other, up to one that may be as short.

        Returns whether there was one. A step is (signs, places, states of the
        trackers, what is known).
        """
        if node.pending is None:
            node.pending = [((), (), (), node.known)]
            node.marks = self.twins(node)
        while node.pending and bound < self.limit:
            step = node.pending.pop()
            if self.is_whole(step):
                if self.enter(self.child(node, step)) <= bound:
                    return True
            elif self.is_due(step):
                node.pending.extend(self.further(node, step))
            else:
                node.pending.extend([
                    more for more in self.further(node, step) if self.is_first_twin(node.marks, step[0], more[0][-1])
                ])
        return False

    def is_whole(self, step):
        """Whether a sign of each name is read in a step, and by all trackers."""
        return len(step[0]) == len(self.names) and len(step[2]) == len(self.trackers)

    def is_due(self, step):
        """Whether the signs of a step are to be read by a tracker next."""
        at = len(step[2])
        return at < len(self.trackers) and self.closers[at] < len(step[0])

    def further(self, node, step):
        """The steps with one more sign, or with a tracker that has read them."""
        letters, places, states, known = step
        if self.is_due(step):
            tracker = self.trackers[len(states)]
            at = tracker.place
            told = tracker.steps(node.states[len(states)], letters[tracker.low], letters[tracker.high], known[at])
            return [
                (letters, places, states + (state,), known[:at] + (more,) + known[at + 1:])
                for state, more in reversed(list(told))
            ]
        choices = self.choices_of(node, len(letters))
        return [(letters + (sign,), places + (place,), states, known) for sign, place in choices]

    def twins(self, node):
        """For each sign the first one that could stand in its place as well."""
        outlook = self.outlook(node.states)
        columns = self.setting.columns if outlook.is_tied else self.setting.free_columns
        marks = [[column] for column in columns]
        for at, lore in enumerate(self.lores):
            for sign, twin in enumerate(lore.twins(node.known[at], outlook.needs[at])):
                marks[sign].append(twin)
        return [marks.index(mark) for mark in marks]

    def is_first_twin(self, twins, letters, sign):
        """Whether no sign ahead of a sign, that was not read, could stand in its place."""
        for other in range(sign):
            if twins[other] == twins[sign] and other not in letters:
                return False
        return True

    def choices_of(self, node, name):
        """The pairs (sign, place) that may come next in a name, of signs that count alike but one."""
        place = node.places[name]
        if place == ENDED:
            return [(ENDED, ENDED)]
        key = (node.states, name, place)
        if key not in self.choices:
            self.choices[key] = self.new_choices(node, name, place)
        return self.choices[key]

    def new_choices(self, node, name, place):
        """The same, worked out."""
        followed = [
            tracker.views(state) for tracker, state in zip(self.trackers, node.states)
            if name in (tracker.low, tracker.high)
        ]
        met = {}
        for sign, afters in enumerate(self.machine.moves[place]):
            view = tuple([views[sign] for views in followed])
            for after in afters:
                met.setdefault((view, after), (sign, after))
        choices = list(met.values())
        return choices + [(ENDED, ENDED)] if self.machine.ends[place] else choices

    def child(self, node, step):
        """The node behind a step; names that do not count any more are read to their ends."""
        letters, places, states, told = step
        outlook = self.outlook(states)
        known = tuple([
            bits & mask | start & ~mask for bits, start, mask in zip(told, self.starts, outlook.masks)
        ])
        child = Node(places, states, known)
        child.told = told
        child.parent = node
        child.depth = node.depth + 1
        child.floor = node.floor
        tails = []
        for name, letter in enumerate(letters):
            tail = () if letter == ENDED else (letter,)
            if letter != ENDED and not outlook.live[name]:
                tail = tail + self.setting.tails[places[name]]
                child.places = child.places[:name] + (ENDED,) + child.places[name + 1:]
            tails.append(tail)
            if tail and name >= self.given:
                child.floor = max(child.floor, node.depth + len(tail))
        child.tails = tuple(tails)
        return child

    def outlook(self, states):
        """What counts for what is still to come."""
        if states not in self.outlooks:
            self.outlooks[states] = Outlook(self.lores, self.given, len(self.names), self.trackers, states)
        return self.outlooks[states]

    def can_end(self, node):
        """Whether the names can all end here."""
        if not all([place == ENDED or self.machine.ends[place] for place in node.places]):
            return False
        return all([tracker.can_end(state) for tracker, state in zip(self.trackers, node.states)])

    def is_new(self, node):
        """Whether no other node covers a node."""
        key = (node.places, node.states)
        rivals = self.reached.get(key, [])
        if any([self.covers(rival, node) for rival in rivals]):
            return False
        kept = []
        for rival in rivals:
            if self.covers(node, rival):
                rival.is_idle = True
            else:
                kept.append(rival)
        self.reached[key] = kept + [node]
        return True

    def covers(self, node, other):
        """Whether of a node at the same places all answers come that come of another one, as short."""
        if node.floor > other.floor or node.depth > other.depth:
            return False
        return all([known & ~more == 0 for known, more in zip(node.known, other.known)])


def read_answer(node, signs):
    """The names that were read up to a node, and what had to be known of each rule for it."""
    names = ["" for place in node.places]
    known = [0 for told in node.told]
    while node is not None:
        for name, tail in enumerate(node.tails):
            names[name] = "".join([signs[sign] for sign in tail]) + names[name]
        known = [one | more for one, more in zip(known, node.told)]
        node = node.parent
    return names, known
