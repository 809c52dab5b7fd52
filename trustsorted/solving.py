"""Names that stand to one another as trackers ask for, found bit by bit.

Most of what is asked for holds by itself where the rest does. So only what an
answer breaks is asked for in the next search, and of as few passes as will do
something is learned; what has no answer, has none if more is asked for, and
what has no short one, has no shorter one then. Single names, pairs of them, and
all without those that are given are tried ahead of all together, for they are
sooner gone through.
"""

from trustsorted.nodes import Setting
from trustsorted.search import Search, read_answer
from trustsorted.simplify import ENDLESS
from trustsorted.trackers import DONE, ENDED

MOST_LEVEL = 3
MOST_STEPS = 5000


def letter(numbers, at):
    """The sign at a place of a name that is told by the numbers of its signs, ENDED behind it."""
    return numbers[at] if at < len(numbers) else ENDED


def fitted(trackers, numbers, known):
    """What has to be known of a rule so that names stand as its trackers ask for.

    The names are told by the numbers of their signs. None if they cannot stand
    so, or if it takes too many steps to tell.
    """
    firsts = [tracker.first for tracker in trackers] + [DONE]
    stack = [(0, 0, firsts[0], known)]
    met = {}
    while stack and len(met) < MOST_STEPS:
        number, at, state, some = stack.pop()
        if number == len(trackers):
            return some
        tracker = trackers[number]
        low, high = letter(numbers[tracker.low], at), letter(numbers[tracker.high], at)
        for after, more in reversed(list(tracker.steps(state, low, high, some))):
            told = (number, at + 1, after, more)
            if after == DONE:
                told = (number + 1, 0, firsts[number + 1], more)
            if told not in met:
                met[told] = True
                stack.append(told)
    return None


def subsets(rows):
    """All that can be chosen of some rows, the smaller choices ahead, without the empty one."""
    chosen = [()]
    for row in rows:
        chosen = chosen + [some + (row,) for some in chosen]
    return sorted(chosen[1:], key=len)


class Problem:
    """Names to be found that stand to one another as trackers ask for.

    `given` are the names that are given, `sought` the numbers of the others.
    `starts` is what is known of each rule at first. `eased` are for each
    tracker its variants, those that learn less ahead; `asked` tells for the
    numbers of some trackers which variant is asked for so far. The longest of
    the names that are sought has at least as many signs as `floor`.
    """

    def __init__(self, house, setting, lores, given, trackers):
        self.house = house
        self.setting = setting
        self.lores = lores
        self.given = given
        self.sought = setting.names[len(given):]
        self.trackers = trackers
        self.starts = [lore.start for lore in lores]
        self.eased = [tracker.variants() for tracker in trackers]
        self.asked = {}
        self.floor = 0

    def solved(self, limit):
        """(names, what is known of each rule) with shortest names, None if there are none below a limit."""
        answer = None
        for names in self.groups():
            told = [at for at, tracker in enumerate(self.trackers) if tracker.low in names and tracker.high in names]
            if told or names == self.setting.names:
                answer = self.answered(told, limit)
                if answer is None:
                    return None
        return answer

    def groups(self):
        """The names that are tried together, in this sequence, by their numbers."""
        first = self.setting.names[:len(self.given)]
        groups = [first + list(rows) for rows in subsets(self.sought)]
        return groups[:-1] + [self.sought] + groups[-1:] if first else groups

    def answered(self, told, limit):
        """The same, where but the trackers with some numbers count."""
        while True:
            search = Search(self.setting, self.lores, self.asked_ones(told), self.floor, limit)
            search.run()
            if search.best is None:
                return None
            self.floor = search.limit
            names, known = read_answer(search.best, self.house.signs)
            names = list(self.given) + names[len(self.given):]
            numbers = [[self.house.signs.index(sign) for sign in name] for name in names]
            for some in (known, self.starts):
                more = self.fit(told, MOST_LEVEL, numbers, some)
                if more is not None:
                    return names, more
            if not self.asks_alone(told, numbers) and not self.asks_together(told, numbers):
                if not self.asks_more(told):
                    return names, known

    def asked_ones(self, told):
        """The trackers with some numbers that are asked for, eased as they are so far."""
        return [self.variant(at, self.asked[at]) for at in told if at in self.asked]

    def variant(self, at, level):
        """The variant of a tracker with this number, the last one if there are not so many."""
        return self.eased[at][min(level, len(self.eased[at]) - 1)]

    def fit(self, told, level, numbers, known):
        """What has to be known of each rule so that names stand as variants ask for; None if they cannot."""
        found = []
        for place, some in enumerate(known):
            rows = [self.variant(at, level) for at in told if self.trackers[at].place == place]
            more = fitted(rows, numbers, some)
            if more is None:
                return None
            found.append(more)
        return found

    def asks_alone(self, told, numbers):
        """Ask for trackers that break by themselves, by the first variant that does; whether there are some."""
        is_asked = False
        for at in told:
            level = self.asked.get(at, -1) + 1
            if level < len(self.eased[at]) and self.fit([at], MOST_LEVEL, numbers, self.starts) is None:
                while self.fit([at], level, numbers, self.starts) is not None:
                    level = level + 1
                self.asked[at] = level
                is_asked = True
        return is_asked

    def asks_together(self, told, numbers):
        """Ask for trackers that break together, by the first variants that do; whether some are asked for anew."""
        level = 0
        while self.fit(told, level, numbers, self.starts) is not None:
            level = level + 1
        is_asked = False
        for at in self.broken(told, level, numbers):
            if self.asked.get(at, -1) < min(level, len(self.eased[at]) - 1):
                self.asked[at] = level
                is_asked = True
        return is_asked

    def broken(self, told, level, numbers):
        """Trackers that break together, without those that can be left out; what is asked for stays rather."""
        kept = list(told)
        for _, at in sorted([(self.asked.get(at, -1), at) for at in told]):
            fewer = [other for other in kept if other != at]
            if self.fit(fewer, level, numbers, self.starts) is None:
                kept = fewer
        return kept

    def asks_more(self, told):
        """Ask for one more tracker, or for a later variant of one; whether there is one."""
        for at in told:
            level = self.asked.get(at, -1) + 1
            if level < len(self.eased[at]):
                self.asked[at] = level
                return True
        return False


def shortest_answer(house, lores, given, many, ways):
    """(number of the way, names, what is known) by which the trackers of one of the ways hold.

    These are as many names as are looked for, the longest one as short as can
    be; the trackers number them behind those that are given. None if none of
    the ways holds.
    """
    setting = Setting(house, given, many)
    best = None
    limit = ENDLESS
    for number, trackers in enumerate(ways):
        answer = Problem(house, setting, lores, given, trackers).solved(limit)
        if answer is not None:
            names = answer[0][len(given):]
            limit = max([len(name) for name in names])
            best = (number, names, answer[1])
    return best
