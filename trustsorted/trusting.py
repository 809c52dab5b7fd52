"""Rules beside one another: what one tells of names that another one listed."""

from trustsorted.checks import check_rule, check_seen, has_name, is_told
from trustsorted.houses import House, told_order
from trustsorted.search import Search, read_answer
from trustsorted.seeing import fits
from trustsorted.trackers import alike_ways, before_ways
from trustsorted.worlds import fitting_lore, world_text


def checked_lore(house, seen, one, other):
    """What is told of both rules and all others; the error for what is no right argument."""
    check_seen(house, seen)
    lores = fitting_lore(house, seen)
    check_rule(house, one)
    check_rule(house, other)
    return lores


def shortest(house, lores, rules, ways):
    """(world, name, ..) by which one of the ways holds, with shortest names; None if none does."""
    many = 1 + max([max(tracker.low, tracker.high) for way in ways for tracker in way])
    node = Search(house, [lores[rule] for rule in rules], many, ways).run()
    if node is None:
        return None
    names, known = read_answer(node, house.signs)
    told = {rule: known[at] for at, rule in enumerate(rules)}
    return (House(world_text(house, lores, told)),) + tuple(names)


def crossed(ways, trackers):
    """The ways with one more tracker each, every one of these in turn."""
    return [way + (tracker,) for way in ways for tracker in trackers]


def not_behind_ways(lore, place, one, other):
    """The trackers of all ways in which the first name is not behind the second one."""
    return alike_ways(lore, place, one, other) + before_ways(lore, place, one, other)


def carries(house, seen, one, other):
    """Whether names that are not behind one another by one rule are not so by the other one."""
    lores = checked_lore(house, seen, one, other)
    if one == other:
        return ("carries",)
    ways = crossed([()], not_behind_ways(lores[one], 0, 0, 1))
    ways = crossed(ways, before_ways(lores[other], 1, 1, 0))
    found = shortest(house, lores, (one, other), ways)
    return ("carries",) if found is None else ("not",) + found


def together(house, seen, one, other):
    """Whether names that are alike by the other rule stand together where the first one listed them."""
    lores = checked_lore(house, seen, one, other)
    if one == other:
        return ("together",)
    ways = crossed([()], alike_ways(lores[other], 1, 0, 1))
    ways = crossed(ways, before_ways(lores[other], 1, 0, 2) + before_ways(lores[other], 1, 2, 0))
    ways = crossed(ways, not_behind_ways(lores[one], 0, 0, 2))
    ways = crossed(ways, not_behind_ways(lores[one], 0, 2, 1))
    found = shortest(house, lores, (one, other), ways)
    return ("together",) if found is None else ("apart", found[0], found[1], found[3], found[2])


def agreed(house, seen, one, other):
    """Whether no names stand one way by one rule and the other way by the other one."""
    lores = checked_lore(house, seen, one, other)
    if one == other:
        return ("agreed",)
    ways = crossed([()], before_ways(lores[one], 0, 0, 1))
    ways = crossed(ways, before_ways(lores[other], 1, 1, 0))
    found = shortest(house, lores, (one, other), ways)
    return ("agreed",) if found is None else ("clash",) + found


def same(house, seen, one, other):
    """Whether both rules tell the same word of any two names."""
    lores = checked_lore(house, seen, one, other)
    if one == other:
        return ("same",)
    behind = before_ways(lores[other], 1, 1, 0)
    ways = crossed(crossed([()], not_behind_ways(lores[one], 0, 0, 1)), behind)
    ways = ways + crossed(crossed([()], before_ways(lores[one], 0, 0, 1)), alike_ways(lores[other], 1, 0, 1))
    found = shortest(house, lores, (one, other), ways)
    return ("same",) if found is None else ("unlike",) + found


def is_shaped(house, seen, told, value):
    """Whether any value has the word of what was told, a world that fits, and names as short."""
    if not is_told(value, len(told), told[0]):
        return False
    if len(told) == 1:
        return True
    if not fits(house, seen, value[1]) or not all([has_name(house, name) for name in value[2:]]):
        return False
    return max([len(name) for name in value[2:]]) == max([len(name) for name in told[2:]])


def shows_carries(house, seen, one, other, value):
    """Whether any value is what carries tells, with any such world and names."""
    if not is_shaped(house, seen, carries(house, seen, one, other), value):
        return False
    if len(value) == 1:
        return True
    some, first, second = value[1:]
    return told_order(some, one, first, second) != "behind" and told_order(some, other, first, second) == "behind"


def shows_together(house, seen, one, other, value):
    """Whether any value is what together tells, with any such world and names."""
    if not is_shaped(house, seen, together(house, seen, one, other), value):
        return False
    if len(value) == 1:
        return True
    some, first, middle, last = value[1:]
    if told_order(some, one, first, middle) == "behind" or told_order(some, one, middle, last) == "behind":
        return False
    return told_order(some, other, first, last) == "alike" and told_order(some, other, first, middle) != "alike"


def shows_agreed(house, seen, one, other, value):
    """Whether any value is what agreed tells, with any such world and names."""
    if not is_shaped(house, seen, agreed(house, seen, one, other), value):
        return False
    if len(value) == 1:
        return True
    some, first, second = value[1:]
    return told_order(some, one, first, second) == "before" and told_order(some, other, first, second) == "behind"


def shows_same(house, seen, one, other, value):
    """Whether any value is what same tells, with any such world and names."""
    if not is_shaped(house, seen, same(house, seen, one, other), value):
        return False
    if len(value) == 1:
        return True
    some, first, second = value[1:]
    return told_order(some, one, first, second) != told_order(some, other, first, second)
