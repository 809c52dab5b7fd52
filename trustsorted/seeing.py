"""What is possible, as far as ranks are known and listings were seen."""

from trustsorted.checks import check_name, check_rule, check_seen, is_integer, is_told
from trustsorted.errors import NoPass
from trustsorted.houses import House, is_listed, is_world, order
from trustsorted.worlds import fits_any, fitting_lore, lore_of, world_text


def word_worlds(lore, one, other):
    """What is known in some worlds in which each word is told of two names, by the word."""
    links, verdict = lore.links(one, other)
    known = lore.start
    found = {}
    for number, alike, before, behind in links:
        for word, bits in (("before", before), ("behind", behind)):
            told = lore.more(known, number, bits)
            if told is not None:
                found.setdefault(word, told)
        known = lore.more(known, number, alike)
        if known is None:
            return found
    last = "before" if verdict < 0 else "alike"
    found.setdefault("behind" if verdict > 0 else last, known)
    return found


def possible(house, seen, rule, one, other):
    """The words that some world which fits tells of two names, each with such a world."""
    check_seen(house, seen)
    lores = fitting_lore(house, seen)
    check_rule(house, rule)
    check_name(house, one)
    check_name(house, other)
    found = word_worlds(lores[rule], one, other)
    return tuple([(word, House(world_text(house, lores, {rule: found[word]}))) for word in sorted(found)])


def unfit_numbers(house, seen):
    """Numbers of listings which no world fits, though it does without any one of them."""
    kept = list(range(len(seen)))
    for number in range(len(seen)):
        fewer = [at for at in kept if at != number]
        if not fits_any(lore_of(house, [seen[at] for at in fewer])):
            kept = fewer
    return tuple(kept)


def fitting(house, seen):
    """A world that fits what was seen, or numbers of listings which none fits."""
    check_seen(house, seen)
    lores = lore_of(house, seen)
    if fits_any(lores):
        return ("fits", House(world_text(house, lores, {})))
    return ("none", unfit_numbers(house, seen))


def has_ranks(house, rule, value):
    """Whether any value is the number of a pass of the rule that is not length."""
    passes = house.passes(rule)
    return is_integer(value) and 0 <= value < len(passes) and passes[value][0] != "length"


def ranked(house, seen, rule, number):
    """All pairs of signs of which one surely stands ahead of the other one in a pass."""
    check_seen(house, seen)
    lores = fitting_lore(house, seen)
    check_rule(house, rule)
    if not has_ranks(house, rule, number):
        raise NoPass(number)
    lore = lores[rule]
    sure = []
    for at, one in enumerate(house.signs):
        for place, other in enumerate(house.signs):
            low = lore.pair_bits(number, place, at)[0] & lore.pair_bits(number, place, at)[1]
            if at != place and lore.more(lore.start, number, low) is None:
                sure.append((one, other))
    return tuple(sorted(sure))


def fits(house, seen, value):
    """Whether any value is a world of the house that fits what was seen."""
    return is_world(house, value) and all([is_listed(value, rule, rows) for rule, rows in seen])


def is_pair(value):
    """Whether any value is a tuple of two."""
    return isinstance(value, tuple) and len(value) == 2


def shows_possible(house, seen, rule, one, other, value):
    """Whether any value is what possible tells, with any such worlds."""
    words = [word for word, some in possible(house, seen, rule, one, other)]
    if not isinstance(value, tuple) or not all([is_pair(told) for told in value]):
        return False
    if len(words) != len(value):
        return False
    for word, (told, some) in zip(words, value):
        if not isinstance(told, str) or told != word:
            return False
        if not fits(house, seen, some) or order(some, rule, one, other) != word:
            return False
    return True


def is_unfit(house, seen, numbers):
    """Whether any value is an ascending tuple of listings as fitting tells them."""
    if not isinstance(numbers, tuple) or not all([is_integer(number) for number in numbers]):
        return False
    if not all([0 <= number < len(seen) for number in numbers]):
        return False
    if list(numbers) != sorted(set(numbers)):
        return False
    listings = [seen[number] for number in numbers]
    fewer = [listings[:at] + listings[at + 1:] for at in range(len(listings))]
    if fits_any(lore_of(house, listings)):
        return False
    return all([fits_any(lore_of(house, some)) for some in fewer])


def shows_fitting(house, seen, value):
    """Whether any value is what fitting tells, with any such world or numbers."""
    told = fitting(house, seen)
    if not is_told(value, 2, told[0]):
        return False
    if told[0] == "fits":
        return fits(house, seen, value[1])
    return is_unfit(house, seen, value[1])
