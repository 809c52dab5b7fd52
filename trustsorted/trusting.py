"""Rules beside one another: what one tells of names that another one listed."""

from trustsorted.checks import check_rule, check_seen, has_name, is_told
from trustsorted.houses import House, told_order
from trustsorted.search import Search, read_answer
from trustsorted.seeing import fits
from trustsorted.trackers import alike_ways, before_ways
from trustsorted.worlds import fitting_lore, world_text


def shortest(house, lores, rules, ways):
    """(world, name, ..) by which one of the ways holds, with shortest names; None if none does."""
    many = 1 + max([max(tracker.low, tracker.high) for way in ways for tracker in way])
    node = Search(house, [lores[rule] for rule in rules], many, ways).run()
    if node is None:
        return None
    names, known = read_answer(node, house.signs)
    told = {rule: known[at] for at, rule in enumerate(rules)}
    return (House(world_text(house, lores, told)),) + tuple(names)


def judged(house, seen, rules, words, ways_of):
    """The first word if none of the ways holds for two rules, otherwise the second one and what shows it.

    `ways_of` tells the ways of the lore of both rules. A rule is the same as
    itself in each world, whatever its ranks are.
    """
    check_seen(house, seen)
    lores = fitting_lore(house, seen)
    check_rule(house, rules[0])
    check_rule(house, rules[1])
    if rules[0] == rules[1]:
        return (words[0],)
    found = shortest(house, lores, rules, ways_of(lores[rules[0]], lores[rules[1]]))
    return (words[0],) if found is None else (words[1],) + found


def crossed(ways, trackers):
    """The ways with one more tracker each, every one of these in turn."""
    return [way + (tracker,) for way in ways for tracker in trackers]


def not_behind_ways(lore, place, one, other):
    """The trackers of all ways in which the first name is not behind the second one."""
    return alike_ways(lore, place, one, other) + before_ways(lore, place, one, other)


def turned_ways(first, second):
    """The ways in which a name is not behind another one by the first rule, but by the second one."""
    return crossed(crossed([()], not_behind_ways(first, 0, 0, 1)), before_ways(second, 1, 1, 0))


def clashing_ways(first, second):
    """The ways in which a name is before another one by the first rule, and behind it by the second one."""
    return crossed(crossed([()], before_ways(first, 0, 0, 1)), before_ways(second, 1, 1, 0))


def unlike_ways(first, second):
    """The ways in which both rules tell unlike words of two names; which one comes first does not matter."""
    split = crossed(crossed([()], before_ways(first, 0, 0, 1)), alike_ways(second, 1, 0, 1))
    return turned_ways(first, second) + split


def parted_ways(first, second):
    """The ways in which names 0 and 1 are alike by the second rule, and 2 is not, but stands between them."""
    ways = crossed([()], alike_ways(second, 1, 0, 1))
    ways = crossed(ways, before_ways(second, 1, 0, 2) + before_ways(second, 1, 2, 0))
    ways = crossed(ways, not_behind_ways(first, 0, 0, 2))
    return crossed(ways, not_behind_ways(first, 0, 2, 1))


def carries(house, seen, one, other):
    """Whether names that are not behind one another by one rule are not so by the other one."""
    return judged(house, seen, (one, other), ("carries", "not"), turned_ways)


def together(house, seen, one, other):
    """Whether names that are alike by the other rule stand together where the first one listed them."""
    told = judged(house, seen, (one, other), ("together", "apart"), parted_ways)
    return told if len(told) == 1 else (told[0], told[1], told[2], told[4], told[3])


def agreed(house, seen, one, other):
    """Whether no names stand one way by one rule and the other way by the other one."""
    return judged(house, seen, (one, other), ("agreed", "clash"), clashing_ways)


def same(house, seen, one, other):
    """Whether both rules tell the same word of any two names."""
    return judged(house, seen, (one, other), ("same", "unlike"), unlike_ways)


def is_shaped(house, seen, told, value):
    """Whether any value has the word of what was told, a world that fits, and names as short."""
    if not is_told(value, len(told), told[0]):
        return False
    if len(told) == 1:
        return True
    if not fits(house, seen, value[1]) or not all([has_name(house, name) for name in value[2:]]):
        return False
    return max([len(name) for name in value[2:]]) == max([len(name) for name in told[2:]])


def shows_carries(house, seen, one, other, value):
    """Whether any value is what carries tells, with any such world and names."""
    if not is_shaped(house, seen, carries(house, seen, one, other), value):
        return False
    if len(value) == 1:
        return True
    some, first, second = value[1:]
    return told_order(some, one, first, second) != "behind" and told_order(some, other, first, second) == "behind"


def shows_together(house, seen, one, other, value):
    """Whether any value is what together tells, with any such world and names."""
    if not is_shaped(house, seen, together(house, seen, one, other), value):
        return False
    if len(value) == 1:
        return True
    some, first, middle, last = value[1:]
    if told_order(some, one, first, middle) == "behind" or told_order(some, one, middle, last) == "behind":
        return False
    return told_order(some, other, first, last) == "alike" and told_order(some, other, first, middle) != "alike"


def shows_agreed(house, seen, one, other, value):
    """Whether any value is what agreed tells, with any such world and names."""
    if not is_shaped(house, seen, agreed(house, seen, one, other), value):
        return False
    if len(value) == 1:
        return True
    some, first, second = value[1:]
    return told_order(some, one, first, second) == "before" and told_order(some, other, first, second) == "behind"


def shows_same(house, seen, one, other, value):
    """Whether any value is what same tells, with any such world and names."""
    if not is_shaped(house, seen, same(house, seen, one, other), value):
        return False
    if len(value) == 1:
        return True
    some, first, second = value[1:]
    return told_order(some, one, first, second) != told_order(some, other, first, second)
