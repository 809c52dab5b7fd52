"""How two names are read together, sign by sign, to tell their order.

A tracker follows two names that have to stand to one another as is asked for:
alike (Tie), unlike (Split), or the first one ahead (Lead). Where it matters
how two signs stand in a pass, and this is open, there is a way to go on for
each answer, with what is known then; of what does not matter nothing is asked.

States are tuples with a code for each pass that is still followed, DONE if
nothing that comes can make a difference.
"""

from trustsorted.lengths import ordered, unequal

ENDED = -1

DONE = ()
EVEN = 0
RUN = 1
LESS = 2
LOST = 3
RUN_LESS = 4
RUN_LOST = 5
BACK_LESS = 6
BACK_LOST = 7


class Tracker:
    """Follows two names, told by their numbers; `place` is the number of the rule's lore."""

    def __init__(self, lore, place, low, high):
        self.lore = lore
        self.place = place
        self.low = low
        self.high = high
        self.ranked = [number for number, word in enumerate(lore.words) if word != "length"]
        self.first = (EVEN,)
        self.learned = len(lore.words)
        self.stepped = {}
        self.viewed = {}

    def variants(self):
        """Trackers that learn nothing of ranks, then of ever more passes, this one last.

        Of passes from `learned` on a tracker learns nothing: what is open
        there it takes, each time anew, as it is best.
        """
        return [self]

    def looked_at(self, state):
        """The numbers of the passes in which signs are still looked at."""
        return self.ranked if state else []

    def needed(self, state):
        """The numbers of the passes of which it counts what is known.

        Files that were seen bind all passes of a rule to one another.
        """
        return list(range(len(self.lore.words))) if state and self.lore.chains else self.looked_at(state)

    def minds_figures(self, state):
        """Whether it still counts which signs are figures."""
        return False

    def views(self, state):
        """For each sign what still counts of it."""
        if state not in self.viewed:
            numbers = self.looked_at(state)
            signs = list(range(self.lore.size))
            views = [tuple([self.lore.first_alike(number, sign) for number in numbers]) for sign in signs]
            if self.minds_figures(state):
                views = [view + (self.lore.figures >> sign & 1,) for sign, view in enumerate(views)]
            self.viewed[state] = views
        return self.viewed[state]

    def beside(self, state, low, high):
        """Those of some lengths that the rests of both names can have beside one another."""
        return low, high

    def can_end(self, state):
        """Whether both names can end here, if they did not yet."""
        return True

    def new_steps(self, state, low, high, known):
        """The steps behind two signs, where not both names have ended."""
        return [(state, known)]

    def steps(self, state, low, high, known):
        """The states, each with what is then known, behind two signs, or ENDED in their places."""
        if state == DONE:
            return [(DONE, known)]
        if low == ENDED and high == ENDED:
            return [(DONE, known)] if self.can_end(state) else []
        key = (state, low, high, known)
        if key not in self.stepped:
            self.stepped[key] = self.new_steps(state, low, high, known)
        return self.stepped[key]


class Tie(Tracker):
    """Follows two names that have to be alike: all passes call all their signs alike."""

    def beside(self, state, low, high):
        """Those of some lengths that the rests of both names can have beside one another."""
        return low & high, low & high

    def new_steps(self, state, low, high, known):
        """The steps behind two signs, where not both names have ended."""
        if low == ENDED or high == ENDED:
            return []
        for number in self.ranked:
            if known is not None and low != high:
                known = self.lore.with_alike(known, number, low, high)
        return [] if known is None else [(state, known)]


class Split(Tracker):
    """Follows two names that have to be unlike: by their lengths, or by any place in any pass."""

    def variants(self):
        """The variants, those that learn less ahead."""
        told = [Split(self.lore, self.place, self.low, self.high) for learned in self.lore.levels]
        for tracker, learned in zip(told, self.lore.levels):
            tracker.learned = learned
        return told + [self]

    def beside(self, state, low, high):
        """Those of some lengths that the rests of both names can have beside one another."""
        return (low, high) if self.ranked else unequal(low, high)

    def can_end(self, state):
        """Whether both names can end here, if they did not yet."""
        return state == DONE

    def new_steps(self, state, low, high, known):
        """The steps behind two signs, where not both names have ended."""
        if low == ENDED or high == ENDED:
            return [(DONE, known)]
        if low == high:
            return [(state, known)]
        told = [(state, known)]
        for number in self.ranked:
            if number >= self.learned:
                if not self.lore.is_alike(known, number, low, high):
                    return [(DONE, known)]
                continue
            for one, other in ((low, high), (high, low)):
                more = self.lore.with_before(known, number, one, other)
                if more == known:
                    return [(DONE, known)]
                if more is not None:
                    told.append((DONE, more))
        return told


class Lead(Tracker):
    """Follows two names, the first of which has to be before the second one, or alike to it if `is_loose`.

    Of each pass is told: EVEN, if it called all signs alike; RUN likewise,
    within runs of figures; LESS, if it tells before; LOST, if it tells behind,
    so that a pass ahead of it has to tell before. Within unlike runs of one
    length so far: RUN_LESS, if the first one is before, RUN_LOST, if it is
    behind. In a pass back: BACK_LESS, if the last unlike signs tell before,
    BACK_LOST, if they tell behind.
    """

    def __init__(self, lore, place, low, high, is_loose):
        Tracker.__init__(self, lore, place, low, high)
        self.is_loose = is_loose
        self.first = tuple([EVEN for word in lore.words])

    def variants(self):
        """The variants, those that learn less ahead."""
        told = [Lead(self.lore, self.place, self.low, self.high, self.is_loose) for learned in self.lore.levels]
        for tracker, learned in zip(told, self.lore.levels):
            tracker.learned = learned
        return told + [self]

    def looked_at(self, state):
        """The numbers of the passes in which signs are still looked at."""
        told = list(zip(self.lore.words, state))
        return [
            number for number, (word, code) in enumerate(told)
            if word != "length" and code in (EVEN, RUN, BACK_LESS, BACK_LOST)
        ]

    def minds_figures(self, state):
        """Whether it still counts which signs are figures."""
        told = list(zip(self.lore.words, state))
        return any([word == "figures" and code in (EVEN, RUN, RUN_LESS, RUN_LOST) for word, code in told])

    def beside(self, state, low, high):
        """Those of some lengths that the rests of both names can have beside one another."""
        if self.lore.words[0] != "length":
            return low, high
        return ordered(low, high, 1 if len(state) > 1 and state[1] == LOST else 0)

    def is_at_least(self, state, other):
        """Whether whatever can follow another state so that all holds can follow a state, too."""
        if state == other or state == DONE:
            return True
        rising = ((LOST, EVEN, LESS), (LOST, RUN_LOST, RUN, RUN_LESS, LESS), (BACK_LOST, EVEN, BACK_LESS))
        for code, rival in zip(state, other):
            if code != rival:
                told = [codes for codes in rising if code in codes and rival in codes]
                return bool(told) and told[0].index(rival) < told[0].index(code)
        return False

    def can_end(self, state):
        """Whether both names can end here, if they did not yet."""
        for code in state:
            if code not in (EVEN, RUN):
                return code in (LESS, RUN_LESS, BACK_LESS)
        return self.is_loose or state == DONE

    def new_steps(self, state, low, high, known):
        """The steps behind two signs, where not both names have ended.

        What a pass tells does not count any more where one ahead of it does
        not call the names alike.
        """
        told = []
        rows = [((), known)]
        for number, code in enumerate(state):
            further = []
            for codes, some in rows:
                for after, more in self.pass_steps(number, code, low, high, some):
                    if after in (EVEN, RUN):
                        further.append((codes + (after,), more))
                    else:
                        told.append((codes + (after,), more))
            rows = further
        told = [(DONE if codes[0] == LESS else codes, some) for codes, some in told + rows]
        return [(codes, some) for codes, some in told if codes == DONE or codes[0] != LOST]

    def pass_steps(self, number, code, low, high, known):
        """The codes of a pass, each with what is then known, behind two signs."""
        word = self.lore.words[number]
        if code in (LESS, LOST):
            return [(code, known)]
        if word == "figures":
            return self.figure_steps(number, code, low, high, known)
        if word == "back":
            return self.back_steps(number, code, low, high, known)
        if word == "length" and low != ENDED and high != ENDED:
            return [(EVEN, known)]
        return self.rank_steps(number, low, high, known)

    def rank_steps(self, number, low, high, known):
        """The steps behind two signs by their classes."""
        if low == ENDED or high == ENDED:
            return [(LESS if low == ENDED else LOST, known)]
        if low == high:
            return [(EVEN, known)]
        before = self.lore.with_before(known, number, low, high)
        if before == known:
            return [(LESS, known)]
        alike = self.lore.with_alike(known, number, low, high)
        if alike == known:
            return [(EVEN, known)]
        behind = self.lore.with_before(known, number, high, low)
        return self.open_steps(number, ((LESS, before), (EVEN, alike), (LOST, behind)), known)

    def open_steps(self, number, told, known):
        """The steps of those told, the better ones ahead, that can be; but the best one, if nothing is learned."""
        steps = [(code, more) for code, more in told if more is not None]
        return steps if number < self.learned else [(steps[0][0], known)]

    def figure_steps(self, number, code, low, high, known):
        """The steps of a pass figures."""
        figures = self.lore.figures
        runs = (low != ENDED and figures >> low & 1, high != ENDED and figures >> high & 1)
        if runs[0] and runs[1]:
            if code in (RUN_LESS, RUN_LOST):
                return [(code, known)]
            inside = {EVEN: RUN, LESS: RUN_LESS, LOST: RUN_LOST}
            return [(inside[after], more) for after, more in self.rank_steps(number, low, high, known)]
        if code != EVEN and (runs[0] or runs[1]):
            return [(LESS if runs[1] else LOST, known)]
        if code in (RUN_LESS, RUN_LOST):
            return [(LESS if code == RUN_LESS else LOST, known)]
        return self.rank_steps(number, low, high, known)

    def back_steps(self, number, code, low, high, known):
        """The steps of a pass back, which counts for names of one length alone."""
        if low == high or low == ENDED or high == ENDED:
            return [(code, known)]
        if code == EVEN:
            last = {EVEN: EVEN, LESS: BACK_LESS, LOST: BACK_LOST}
            return [(last[after], more) for after, more in self.rank_steps(number, low, high, known)]
        if code == BACK_LESS:
            less = self.lore.with_low(known, number, low, high)
            lost = self.lore.with_before(known, number, high, low)
        else:
            less = self.lore.with_before(known, number, low, high)
            lost = self.lore.with_low(known, number, high, low)
        if less == known or lost == known:
            return [(BACK_LESS if less == known else BACK_LOST, known)]
        return self.open_steps(number, ((BACK_LESS, less), (BACK_LOST, lost)), known)
