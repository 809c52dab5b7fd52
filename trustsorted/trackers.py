"""How two names are read together, sign by sign, to tell their order.

Two names that are told alike, or one before the other, by a rule are so by
one of the ways that its passes leave: some passes call them alike, and the
next one decides, or all call them alike. A tracker follows one such way. It
guesses what the signs still to come will be, so that no more needs to be
known of the ranks than this way asks for.
"""

ENDED = -1

OPEN = 0
EVEN = 1
LONGER = 2
LESSER = 3
TAIL = 4
WON = 5
SETTLED = 6
DONE = 7


def rank_moves(low, high):
    """The moves of a pass ranks for two names that are alike so far.

    A move is the state behind it, and what must be known of both signs: "=",
    "<", or "" for nothing.
    """
    if high == ENDED:
        return ()
    if low == ENDED:
        return ((WON, ""),)
    if low == high:
        return ((OPEN, ""),)
    return ((OPEN, "="), (WON, "<"))


def length_moves(low, high):
    """The moves of a pass length."""
    if high == ENDED:
        return ()
    return ((WON, ""),) if low == ENDED else ((OPEN, ""),)


def back_moves(state, low, high):
    """The moves of a pass back: OPEN is ahead of the sign that decides, TAIL behind it."""
    if low == ENDED or high == ENDED:
        return ((WON, ""),) if low == high and state == TAIL else ()
    if state == TAIL:
        return ((TAIL, "" if low == high else "="),)
    return ((OPEN, ""),) if low == high else ((OPEN, ""), (TAIL, "<"))


def run_moves(low, high, state):
    """The moves of a pass figures for two figures in runs that are alike so far."""
    if low == high:
        moves = ((EVEN, ""),)
    else:
        moves = ((EVEN, "="), (LESSER, "<"))
    return moves + ((LONGER, ""),) if state == OPEN else moves


def figure_moves(state, low, high, figures):
    """The moves of a pass figures.

    OPEN is ahead of a token. In a run EVEN is where it is alike so far,
    LESSER where both runs have to be of one length, and LONGER where the
    second one has to be longer; then its figures need not be looked at.
    """
    runs = (low != ENDED and figures >> low & 1, high != ENDED and figures >> high & 1)
    if state == LONGER:
        if runs[0]:
            return ((LONGER, ""),) if runs[1] else ()
        return ((WON, ""),) if runs[1] else ()
    if state == LESSER:
        if runs[0] and runs[1]:
            return ((LESSER, ""),)
        return () if runs[0] or runs[1] else ((WON, ""),)
    if runs[0] and runs[1]:
        return run_moves(low, high, state)
    if state == EVEN and (runs[0] or runs[1]):
        return ()
    return rank_moves(low, high)


class Tracker:
    """Follows two names, told by their numbers, in one way that a rule leaves.

    `place` is the number of the rule's lore, `alike` are the numbers of the
    passes that call both alike; `decider` is that of the pass by which the
    first name is before the second one, None if there is none.
    """

    def __init__(self, lore, place, names, alike, decider):
        self.lore = lore
        self.place = place
        self.low = names[0]
        self.high = names[1]
        self.is_tied = bool(alike)
        self.alike = [number for number in alike if lore.words[number] != "length"]
        self.decider = decider
        self.word = "" if decider is None else lore.words[decider]
        self.first = SETTLED if decider is None else OPEN
        self.stepped = {}

    def looked_at(self, state):
        """The numbers of the passes in which signs are still looked at."""
        if state == DONE:
            return []
        if state in (OPEN, EVEN, TAIL) and self.word != "length":
            return self.alike + [self.decider]
        return self.alike

    def needed(self, state):
        """The numbers of the passes of which it counts what is known.

        Files that were seen bind all passes of a rule to one another.
        """
        return list(range(len(self.lore.words))) if self.lore.chains else self.looked_at(state)

    def minds_figures(self, state):
        """Whether it still counts which signs are figures."""
        return self.word == "figures" and state in (OPEN, EVEN, LONGER, LESSER)

    def can_end(self, state):
        """Whether both names can end here, if they did not yet."""
        return state in (LESSER, TAIL, SETTLED, DONE)

    def next_moves(self, state, low, high):
        """The moves of the pass that decides."""
        if self.word == "length":
            return length_moves(low, high)
        if self.word == "figures":
            return figure_moves(state, low, high, self.lore.figures)
        if self.word == "back":
            return back_moves(state, low, high)
        return rank_moves(low, high)

    def steps(self, state, low, high, known):
        """The states, each with what is then known, behind two signs, or ENDED in their places."""
        key = (state, low, high, known)
        if key not in self.stepped:
            self.stepped[key] = self.new_steps(state, low, high, known)
        return self.stepped[key]

    def new_steps(self, state, low, high, known):
        """The same, worked out."""
        if state == DONE:
            return [(DONE, known)]
        if low == ENDED and high == ENDED:
            return [(DONE, known)] if self.can_end(state) else []
        if self.is_tied:
            known = self.known_alike(low, high, known)
            if known is None:
                return []
        if state == SETTLED:
            return [(SETTLED, known)]
        return self.decided(self.next_moves(state, low, high), low, high, known)

    def known_alike(self, low, high, known):
        """What is known if the passes that have to call two signs alike do so; None if they cannot."""
        if low == ENDED or high == ENDED:
            return None
        for number in self.alike:
            if known is not None and low != high:
                known = self.lore.with_alike(known, number, low, high)
        return known

    def decided(self, moves, low, high, known):
        """The steps by which these moves can be made."""
        told = []
        for state, word in moves:
            more = known
            if word == "=":
                more = self.lore.with_alike(known, self.decider, low, high)
            elif word == "<":
                more = self.lore.with_before(known, self.decider, low, high)
            settled = SETTLED if self.is_tied else DONE
            if more is not None:
                told.append((settled if state == WON else state, more))
        return told


def alike_ways(lore, place, one, other):
    """The trackers of all ways in which two names are alike."""
    return [Tracker(lore, place, (one, other), list(range(len(lore.words))), None)]


def before_ways(lore, place, one, other):
    """The trackers of all ways in which the first name is before the second one."""
    ways = []
    for number, word in enumerate(lore.words):
        if number == 0 or word != "length":
            ways.append(Tracker(lore, place, (one, other), list(range(number)), number))
    return ways
