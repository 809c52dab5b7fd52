"""The search for shortest names that stand to one another as is asked for.

All names are read together, one sign of each at a time. A node tells how far
they are read, and what must be known of the ranks for it; a node that asks
for no less than another one, and is no shorter, is left out. So there are but
finitely many of them, and when all are gone through there are no such names
of any length.
"""

from trustsorted.nodes import Node, Outlook
from trustsorted.simplify import ENDLESS, longest_rests, shortest_tails, simplified
from trustsorted.trackers import DONE, ENDED


class Search:
    """One search; `ways` are tuples of trackers, those of one of which have to be told.

    `closers` are the trackers of each way by the name that comes last of
    those they follow; in this sequence they stand in `ways`, too.
    """

    def __init__(self, house, lores, many, ways):
        self.lores = lores
        self.many = many
        self.closers = [
            [[tracker for tracker in way if max(tracker.low, tracker.high) == name] for name in range(many)]
            for way in ways
        ]
        self.ways = [[tracker for trackers in told for tracker in trackers] for told in self.closers]
        self.machine = simplified(house.machine)
        self.tails = shortest_tails(self.machine)
        self.longest = longest_rests(self.machine)
        self.best = None
        self.queues = {}
        self.rests = {}
        self.reached = {}
        self.choices = {}
        self.outlooks = {}
        self.starts = tuple([lore.start for lore in lores])
        self.columns = [tuple([row[sign] for row in self.machine.moves]) for sign in range(len(house.signs))]

    def first_nodes(self):
        """The nodes at which nothing is read."""
        nodes = []
        places = [()]
        for _ in range(self.many):
            places = [told + (place,) for told in places for place in self.machine.starts]
        for way, trackers in enumerate(self.ways):
            states = tuple([tracker.first for tracker in trackers])
            nodes.extend([Node(way, told, states, self.starts) for told in places])
        return nodes

    def run(self):
        """The last node of a shortest answer, None if there is none.

        The nodes of which the shortest answers can come are gone on with
        first, of these the one that came last.
        """
        for node in self.first_nodes():
            self.enter(node)
        while self.queues:
            bound = min(list(self.queues))
            if self.best is not None and self.best.floor <= bound:
                break
            node = self.queues[bound].pop()
            if not self.queues[bound]:
                del self.queues[bound]
            if not node.is_idle:
                for step in self.steps(node):
                    self.enter(self.child(node, step))
        return self.best

    def enter(self, node):
        """Keep a node to go on with it, if an answer may come of it that no other one gives."""
        if self.can_end(node):
            if self.best is None or node.floor < self.best.floor:
                self.best = node
            return
        rest = self.rest(node)
        if rest is None:
            return
        bound = max(node.floor, node.depth + rest)
        if (self.best is None or bound < self.best.floor) and self.is_new(node):
            self.queues.setdefault(bound, []).append(node)

    def rest(self, node):
        """How many signs the longest name will surely have still; None if the names cannot end."""
        key = (node.way, node.places, node.states)
        if key not in self.rests:
            self.rests[key] = self.new_rest(node)
        return self.rests[key]

    def new_rest(self, node):
        """The same, worked out by the lengths that names must have beside one another."""
        least = [0 if place == ENDED else len(self.tails[place]) for place in node.places]
        most = [ENDLESS if place == ENDED else self.longest[place] for place in node.places]
        for _ in range(self.many + 1):
            earlier = least + most
            for tracker, state in zip(self.ways[node.way], node.states):
                low, high = tracker.low, tracker.high
                if state != DONE and tracker.is_tied:
                    least[low] = least[high] = max(least[low], least[high])
                    most[low] = most[high] = min(most[low], most[high])
                elif state != DONE and tracker.word == "length":
                    least[high] = max(least[high], least[low] + 1)
                    most[low] = min(most[low], most[high] - 1)
            if least + most == earlier and all([least[name] <= most[name] for name in range(self.many)]):
                return max(least + [1])
        return None

    def steps(self, node):
        """What may be read next: (signs, places, states of the trackers, what is known)."""
        twins = self.twins(node)
        steps = [((), (), (), node.known)]
        for name in range(self.many):
            choices = self.choices_of(node, name)
            steps = [
                more for step in steps for choice in choices
                if self.is_first_twin(twins, step[0], choice[0]) for more in self.extended(node, step, choice)
            ]
        return steps

    def twins(self, node):
        """For each sign the first one that could stand in its place as well."""
        marks = [[column] for column in self.columns]
        needs = self.outlook(node.way, node.states).needs
        for at, lore in enumerate(self.lores):
            for sign, twin in enumerate(lore.twins(node.known[at], needs[at])):
                marks[sign].append(twin)
        return [marks.index(mark) for mark in marks]

    def is_first_twin(self, twins, letters, sign):
        """Whether no sign ahead of a sign, that was not read, could stand in its place."""
        for other in range(sign):
            if twins[other] == twins[sign] and other not in letters:
                return False
        return True

    def choices_of(self, node, name):
        """The pairs (sign, place) that may come next in a name, of signs that count alike but one."""
        place = node.places[name]
        if place == ENDED:
            return [(ENDED, ENDED)]
        key = (node.way, node.states, name, place)
        if key not in self.choices:
            self.choices[key] = self.new_choices(node, name, place)
        return self.choices[key]

    def new_choices(self, node, name, place):
        """The same, worked out."""
        met = {}
        for sign, afters in enumerate(self.machine.moves[place]):
            view = self.view(node, name, sign)
            for after in afters:
                met.setdefault((view, after), (sign, after))
        choices = list(met.values())
        return choices + [(ENDED, ENDED)] if self.machine.ends[place] else choices

    def view(self, node, name, sign):
        """What still counts of a sign in a name."""
        view = []
        for tracker, state in zip(self.ways[node.way], node.states):
            if name in (tracker.low, tracker.high):
                view.extend([tracker.lore.first_alike(number, sign) for number in tracker.looked_at(state)])
                if tracker.minds_figures(state):
                    view.append(tracker.lore.figures >> sign & 1)
        return tuple(view)

    def extended(self, node, step, choice):
        """The steps with one more sign, behind the trackers of this name and earlier ones."""
        letters = step[0] + (choice[0],)
        told = [(step[2], step[3])]
        for tracker in self.closers[node.way][len(step[0])]:
            told = [more for states, known in told for more in self.tracked(node, letters, tracker, states, known)]
            if not told:
                return []
        places = step[1] + (choice[1],)
        return [(letters, places, states, known) for states, known in told]

    def tracked(self, node, letters, tracker, states, known):
        """The states of trackers, and what is known, behind the signs for one more tracker."""
        at = tracker.place
        steps = tracker.steps(node.states[len(states)], letters[tracker.low], letters[tracker.high], known[at])
        return [(states + (state,), known[:at] + (more,) + known[at + 1:]) for state, more in steps]

    def child(self, node, step):
        """The node behind a step; names that do not count any more are read to their ends."""
        letters, places, states, told = step
        outlook = self.outlook(node.way, states)
        known = tuple([
            bits & mask | start & ~mask for bits, start, mask in zip(told, self.starts, outlook.masks)
        ])
        child = Node(node.way, places, states, known)
        child.told = told
        child.parent = node
        child.depth = node.depth + 1
        child.floor = node.floor
        tails = []
        for name, letter in enumerate(letters):
            tail = () if letter == ENDED else (letter,)
            if letter != ENDED and not outlook.live[name]:
                tail = tail + self.tails[places[name]]
                child.places = child.places[:name] + (ENDED,) + child.places[name + 1:]
            tails.append(tail)
            if tail:
                child.floor = max(child.floor, node.depth + len(tail))
        child.tails = tuple(tails)
        return child

    def outlook(self, way, states):
        """What counts for what is still to come."""
        key = (way, states)
        if key not in self.outlooks:
            self.outlooks[key] = Outlook(self.lores, self.many, self.ways[way], states)
        return self.outlooks[key]

    def can_end(self, child):
        """Whether the names can all end here."""
        if not all([place == ENDED or self.machine.ends[place] for place in child.places]):
            return False
        trackers = self.ways[child.way]
        return all([tracker.can_end(state) for tracker, state in zip(trackers, child.states)])

    def is_new(self, node):
        """Whether no other node covers a node."""
        key = (node.way, node.places, node.states)
        rivals = self.reached.get(key, [])
        if any([self.covers(rival, node) for rival in rivals]):
            return False
        kept = []
        for rival in rivals:
            if self.covers(node, rival):
                rival.is_idle = True
            else:
                kept.append(rival)
        self.reached[key] = kept + [node]
        return True

    def covers(self, node, other):
        """Whether of a node at the same places all answers come that come of another one, as short."""
        if node.floor > other.floor or node.depth > other.depth:
            return False
        return all([known & ~more == 0 for known, more in zip(node.known, other.known)])


def read_answer(node, signs):
    """The names that were read up to a node, and what had to be known of each rule for it."""
    names = ["" for place in node.places]
    known = list(node.told)
    while node.parent is not None:
        for name, tail in enumerate(node.tails):
            names[name] = "".join([signs[sign] for sign in tail]) + names[name]
        node = node.parent
        known = [one | more for one, more in zip(known, node.told)]
    return names, known
