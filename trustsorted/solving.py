"""Names that stand to one another as trackers ask for, found bit by bit.

Most of what is asked for holds by itself where the rest does. So only what an
answer breaks is asked for in the next search, at first so that nothing is
learned of ranks; what has no answer, has none if more is asked for. Single
names, and pairs of them, are tried ahead of all together, for they are soon
gone through.
"""

from trustsorted.nodes import Setting
from trustsorted.search import Search, read_answer
from trustsorted.simplify import ENDLESS
from trustsorted.trackers import DONE, ENDED


def letter(numbers, at):
    """The sign at a place of a name that is told by the numbers of its signs, ENDED behind it."""
    return numbers[at] if at < len(numbers) else ENDED


def fitted(tracker, low, high, known):
    """What has to be known so that two names stand as a tracker asks for; None if they cannot."""
    stack = [(0, tracker.first, known)]
    met = {}
    while stack:
        at, state, some = stack.pop()
        if state == DONE:
            return some
        for after, more in tracker.steps(state, letter(low, at), letter(high, at), some):
            told = (at + 1, after, more)
            if told not in met:
                met[told] = True
                stack.append(told)
    return None


def subsets(rows):
    """All that can be chosen of some rows, the smaller choices ahead, without the empty one."""
    chosen = [()]
    for row in rows:
        chosen = chosen + [some + (row,) for some in chosen]
    return sorted(chosen[1:], key=len)


class Problem:
    """Names to be found that stand to one another as trackers ask for.

    `given` are the names that are given, `sought` the numbers of the others.
    `eased` are the trackers that learn nothing of ranks, and `asked` those
    that are asked for so far, by their numbers. The longest of the names that
    are sought has at least as many signs as `floor`.
    """

    def __init__(self, house, setting, lores, given, trackers):
        self.house = house
        self.setting = setting
        self.lores = lores
        self.given = given
        self.sought = setting.names[len(given):]
        self.trackers = trackers
        self.eased = [tracker.without_learning() if tracker.learns else tracker for tracker in trackers]
        self.asked = {}
        self.floor = 0

    def solved(self, limit):
        """(names, what is known of each rule) with shortest names, None if there are none below a limit."""
        answer = None
        for rows in subsets(self.sought):
            names = self.setting.names[:len(self.given)] + list(rows)
            told = [at for at, tracker in enumerate(self.trackers) if tracker.low in names and tracker.high in names]
            if told or len(rows) == len(self.sought):
                answer = self.answered(told, limit)
                if answer is None:
                    return None
        return answer

    def answered(self, told, limit):
        """The same, where but the trackers with some numbers count."""
        while True:
            answer = self.searched([self.asked[at] for at in told if at in self.asked], limit)
            if answer is None or not self.broken(told, answer[0], answer[1]):
                return answer

    def searched(self, trackers, limit):
        """The same for some trackers."""
        search = Search(self.setting, self.lores, trackers, self.floor, limit)
        search.run()
        if search.best is None:
            return None
        self.floor = search.limit
        names, known = read_answer(search.best, self.house.signs)
        return list(self.given) + names[len(self.given):], known

    def broken(self, told, names, known):
        """Whether some of the trackers break, of those with some numbers; then some of these are asked for.

        What the other ones need is added to what is known. Those that learn
        something of ranks are asked for one by one, if no others break.
        """
        numbers = [[self.house.signs.index(sign) for sign in name] for name in names]
        broken = []
        for at in told:
            tracker = self.trackers[at]
            more = fitted(tracker, numbers[tracker.low], numbers[tracker.high], known[tracker.place])
            if more is None:
                broken.append(at)
            else:
                known[tracker.place] = more
        is_eased = False
        for at in broken:
            tracker = self.eased[at]
            start = self.lores[tracker.place].start
            if at not in self.asked and fitted(tracker, numbers[tracker.low], numbers[tracker.high], start) is None:
                self.asked[at] = tracker
                is_eased = True
        if broken and not is_eased:
            self.asked[broken[0]] = self.trackers[broken[0]]
        return bool(broken)


def shortest_answer(house, lores, given, many, ways):
    """(number of the way, names, what is known) by which the trackers of one of the ways hold.

    These are as many names as are looked for, the longest one as short as can
    be; the trackers number them behind those that are given. None if none of
    the ways holds.
    """
    setting = Setting(house, given, many)
    best = None
    limit = ENDLESS
    for number, trackers in enumerate(ways):
        answer = Problem(house, setting, lores, given, trackers).solved(limit)
        if answer is not None:
            names = answer[0][len(given):]
            limit = max([len(name) for name in names])
            best = (number, names, answer[1])
    return best
