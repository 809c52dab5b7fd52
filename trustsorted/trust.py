"""Whether a tool can be trusted with files that keep promises."""

from trustsorted.checks import check_promises, check_seen, check_tool, has_name, is_told
from trustsorted.deceits import deceits_of
from trustsorted.houses import House
from trustsorted.points import ALIKE, ANY, BEHIND, NOT_BEHIND, TURNED, UNLIKE, WORDS, drawn
from trustsorted.seeing import fits, word_worlds
from trustsorted.solving import shortest_answer
from trustsorted.tools import is_done, is_kept
from trustsorted.trackers import Lead, Split, Tie
from trustsorted.worlds import fitting_lore, world_text


def given_names(stage):
    """The names that stand in what is told of deceits, each once."""
    told = [name for deceit in stage for row in deceit.told for name in row[1:3] if isinstance(name, str)]
    return sorted(set(told))


def numbered(told, rule, given):
    """What is told by one rule, as (one, other, words), with numbers for the names that are given, too."""
    rows = []
    for other, one, two, words in told:
        if other == rule:
            places = [given.index(name) if isinstance(name, str) else len(given) + name for name in (one, two)]
            rows.append((places[0], places[1], words))
    return rows


def sure_words(lore, given, rows):
    """The words that can be told by a rule of those names that are given which stand in some rows."""
    names = sorted(set([name for row in rows for name in row[:2] if name < len(given)]))
    sure = []
    for at, one in enumerate(names):
        for other in names[at + 1:]:
            words = sum([WORDS[word] for word in word_worlds(lore, given[one], given[other])])
            sure.append((one, other, words))
    return sure


def tracker_of(lore, place, row):
    """The tracker of two names of which some words, but not all, are told."""
    one, other, words = row
    if words == ALIKE:
        return Tie(lore, place, one, other)
    if words == UNLIKE:
        return Split(lore, place, one, other)
    if words & BEHIND:
        one, other, words = other, one, TURNED[words]
    return Lead(lore, place, one, other, words == NOT_BEHIND)


def way_of(house, lores, given, deceit):
    """The trackers of all that follows from what is told of a deceit, None if it is at odds with itself."""
    way = []
    for place, rule in enumerate(house.rules):
        rows = numbered(deceit.told, rule, given)
        table = drawn(sure_words(lores[rule], given, rows) + rows)
        if table is None:
            return None
        for one, other in table:
            words = table[(one, other)]
            if one < other and other >= len(given) and words != ANY:
                way.append(tracker_of(lores[rule], place, (one, other, words)))
    return way


def shortest_load(house, lores, stage):
    """(world, load) with shortest rows by which one of the deceits comes about; None if none does."""
    given = given_names(stage)
    ways = [(deceit, way_of(house, lores, given, deceit)) for deceit in stage]
    ways = [(deceit, way) for deceit, way in ways if way is not None]
    told = [lores[rule] for rule in house.rules]
    answer = shortest_answer(house, told, given, stage[0].size, [way for deceit, way in ways])
    if answer is None:
        return None
    number, names, known = answer
    load = tuple([tuple([names[row] for row in rows]) for rows in ways[number][0].files])
    told = {rule: known[place] for place, rule in enumerate(house.rules)}
    return House(world_text(house, lores, told)), load


class Judge:
    """Tells of tools whether they can be trusted by what was seen, of each question once."""

    def __init__(self, house, seen):
        self.house = house
        self.seen = seen
        self.lores = fitting_lore(house, seen)
        self.verdicts = {}

    def verdict(self, promises, tool):
        """What trust tells."""
        key = (promises, tool)
        if key not in self.verdicts:
            self.verdicts[key] = self.new_verdict(promises, tool)
        return self.verdicts[key]

    def new_verdict(self, promises, tool):
        """The same, worked out."""
        for stage in deceits_of(promises, tool):
            found = shortest_load(self.house, self.lores, stage)
            if found is not None:
                return ("deceived",) + found
        return ("right",)


def judge_of(house, seen, promises, tool):
    """The judge of what was seen; refuses what is no question."""
    check_seen(house, seen)
    judge = Judge(house, seen)
    check_tool(house, tool)
    check_promises(house, tool, promises)
    return judge


def trust(house, seen, promises, tool):
    """Whether a tool does what is meant with all files that keep promises, or a least load that deceives it."""
    return judge_of(house, seen, promises, tool).verdict(promises, tool)


def measures(load):
    """How many rows a load has in each of the ways that count: (files, rows, signs of the longest row)."""
    rows = [row for told in load for row in told]
    return len(load), len(rows), max([len(row) for row in rows])


def is_rows(house, value):
    """Whether any value is a tuple of names of the house."""
    return isinstance(value, tuple) and all([has_name(house, row) for row in value])


def is_deceived(judge, promises, tool, some, load):
    """Whether any values are a world and a load that deceive a tool which can be deceived, as trust tells them."""
    house = judge.house
    if not fits(house, judge.seen, some):
        return False
    if not isinstance(load, tuple) or not all([is_rows(house, rows) for rows in load]):
        return False
    if not any([len(rows) for rows in load]) or measures(load) != measures(judge.verdict(promises, tool)[2]):
        return False
    if not all([is_kept(some, promise, rows) for promise, rows in zip(promises, load)]):
        return False
    return not is_done(some, promises[0][0], tool, load)


def shows_trust(house, seen, promises, tool, value):
    """Whether any value is what trust tells, with any such world and load."""
    judge = judge_of(house, seen, promises, tool)
    told = judge.verdict(promises, tool)
    if not is_told(value, len(told), told[0]):
        return False
    return len(told) == 1 or is_deceived(judge, promises, tool, value[1], value[2])
