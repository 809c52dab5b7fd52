"""Rules beside one another: what one tells of names that another one listed."""

from trustsorted.checks import check_rule, check_seen, has_name, is_told
from trustsorted.houses import House, told_order
from trustsorted.seeing import fits
from trustsorted.solving import shortest_answer
from trustsorted.trackers import Lead, Split, Tie
from trustsorted.worlds import fitting_lore, world_text


def shortest(house, lores, rules, many, ways):
    """(world, name, ..) by which one of the ways holds, with shortest names; None if none does."""
    answer = shortest_answer(house, [lores[rule] for rule in rules], (), many, ways)
    if answer is None:
        return None
    number, names, known = answer
    told = {rule: known[at] for at, rule in enumerate(rules)}
    return (House(world_text(house, lores, told)),) + tuple(names)


def judged(house, seen, rules, words, ways_of):
    """The first word if none of the ways holds for two rules, otherwise the second one and what shows it.

    `ways_of` tells how many names there are, and the ways of the lore of both
    rules. A rule is the same as itself in each world, whatever its ranks are.
    """
    check_seen(house, seen)
    lores = fitting_lore(house, seen)
    check_rule(house, rules[0])
    check_rule(house, rules[1])
    if rules[0] == rules[1]:
        return (words[0],)
    many, ways = ways_of(lores[rules[0]], lores[rules[1]])
    found = shortest(house, lores, rules, many, ways)
    return (words[0],) if found is None else (words[1],) + found


def turned_ways(first, second):
    """The ways in which a name is not behind another one by the first rule, but by the second one."""
    return 2, [(Lead(first, 0, 0, 1, True), Lead(second, 1, 1, 0, False))]


def clashing_ways(first, second):
    """The ways in which a name is before another one by the first rule, and behind it by the second one."""
    return 2, [(Lead(first, 0, 0, 1, False), Lead(second, 1, 1, 0, False))]


def unlike_ways(first, second):
    """The ways in which both rules tell unlike words of two names; which one comes first does not matter."""
    split = (Lead(first, 0, 0, 1, False), Tie(second, 1, 0, 1))
    return 2, turned_ways(first, second)[1] + [split]


def parted_ways(first, second):
    """The ways in which names 0 and 2 are alike by the second rule, and 1 is not, but stands between them."""
    between = (Lead(first, 0, 0, 1, True), Lead(first, 0, 1, 2, True))
    return 3, [(Tie(second, 1, 0, 2), Split(second, 1, 0, 1)) + between]


def carries(house, seen, one, other):
    """Whether names that are not behind one another by one rule are not so by the other one."""
    return judged(house, seen, (one, other), ("carries", "not"), turned_ways)


def together(house, seen, one, other):
    """Whether names that are alike by the other rule stand together where the first one listed them."""
    return judged(house, seen, (one, other), ("together", "apart"), parted_ways)


def agreed(house, seen, one, other):
    """Whether no names stand one way by one rule and the other way by the other one."""
    return judged(house, seen, (one, other), ("agreed", "clash"), clashing_ways)


def same(house, seen, one, other):
    """Whether both rules tell the same word of any two names."""
    return judged(house, seen, (one, other), ("same", "unlike"), unlike_ways)


def is_shaped(house, seen, told, value):
    """Whether any value has the word of what was told, a world that fits, and names as short."""
    if not is_told(value, len(told), told[0]):
        return False
    if len(told) == 1:
        return True
    if not fits(house, seen, value[1]) or not all([has_name(house, name) for name in value[2:]]):
        return False
    return max([len(name) for name in value[2:]]) == max([len(name) for name in told[2:]])


def shows_carries(house, seen, one, other, value):
    """Whether any value is what carries tells, with any such world and names."""
    if not is_shaped(house, seen, carries(house, seen, one, other), value):
        return False
    if len(value) == 1:
        return True
    some, first, second = value[1:]
    return told_order(some, one, first, second) != "behind" and told_order(some, other, first, second) == "behind"


def shows_together(house, seen, one, other, value):
    """Whether any value is what together tells, with any such world and names."""
    if not is_shaped(house, seen, together(house, seen, one, other), value):
        return False
    if len(value) == 1:
        return True
    some, first, middle, last = value[1:]
    if told_order(some, one, first, middle) == "behind" or told_order(some, one, middle, last) == "behind":
        return False
    return told_order(some, other, first, last) == "alike" and told_order(some, other, first, middle) != "alike"


def shows_agreed(house, seen, one, other, value):
    """Whether any value is what agreed tells, with any such world and names."""
    if not is_shaped(house, seen, agreed(house, seen, one, other), value):
        return False
    if len(value) == 1:
        return True
    some, first, second = value[1:]
    return told_order(some, one, first, second) == "before" and told_order(some, other, first, second) == "behind"


def shows_same(house, seen, one, other, value):
    """Whether any value is what same tells, with any such world and names."""
    if not is_shaped(house, seen, same(house, seen, one, other), value):
        return False
    if len(value) == 1:
        return True
    some, first, second = value[1:]
    return told_order(some, one, first, second) != told_order(some, other, first, second)
