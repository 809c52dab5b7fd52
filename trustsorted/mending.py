"""How works are mended: changes of their lines, and the cheapest ones by which they are sound."""

from trustsorted.checks import check_seen, is_ascending, is_integer, is_told
from trustsorted.errors import BadChanges, BadOffers, BadWork
from trustsorted.signs import LETTERS
from trustsorted.steps import Step, step_line, tool_of
from trustsorted.trust import Judge
from trustsorted.works import Work, first_weak, is_weak

MOST_CHANGES = 4
MOST_OFFERS = 4
MOST_PRICE = 9


def is_number(work, value):
    """Whether any value is the number of a line of a work."""
    return is_integer(value) and 1 <= value <= len(work)


def is_change(work, value):
    """Whether any value is a change of a work, be it one that can be made or not."""
    if is_told(value, 3, "by") and is_number(work, value[1]):
        return value[2] in work.house and value[2] != work.parts[value[1] - 1].rule
    if is_told(value, 2, "sort") and is_number(work, value[1]):
        return tool_of(work.parts[value[1] - 1]) is not None
    return False


def are_changes(work, value):
    """Whether any value is an ascending tuple of changes, no two of one kind with one number."""
    if not isinstance(value, tuple) or len(value) > MOST_CHANGES:
        return False
    if not all([is_change(work, change) for change in value]) or not is_ascending(value):
        return False
    return len(set([change[:2] for change in value])) == len(value)


def free_letter(names):
    """The first letter that is none of some names."""
    return [letter for letter in LETTERS if letter not in names][0]


def sorted_ahead(step, names):
    """A step whose files are sorted by its rule, and ahead of it the steps that sort them.

    These have names that are none of those told, to which they are added.
    """
    steps = []
    renamed = {}
    for name in step.froms:
        if name not in renamed:
            renamed[name] = free_letter(names)
            names.append(renamed[name])
            steps.append(Step("sort", renamed[name], step.rule, (name,), ()))
    froms = tuple([renamed[name] for name in step.froms])
    return steps + [Step(step.word, step.name, step.rule, froms, step.bounds)]


def changed_lines(work, changes):
    """The lines of a work with changes made."""
    rules = {change[1]: change[2] for change in changes if change[0] == "by"}
    sorts = {change[1]: True for change in changes if change[0] == "sort"}
    names = list(work.names)
    lines = []
    for number, step in enumerate(work.parts, start=1):
        told = Step(step.word, step.name, rules.get(number, step.rule), step.froms, step.bounds)
        steps = sorted_ahead(told, names) if number in sorts else [told]
        lines.extend([step_line(some) for some in steps])
    return lines


def work_with(work, changes):
    """The work with changes made, None if they cannot be made."""
    if not are_changes(work, changes):
        return None
    try:
        return Work(work.house, "\n".join(changed_lines(work, changes)))
    except BadWork:
        return None


def changed(work, changes):
    """The work with changes made."""
    told = work_with(work, changes)
    if told is None:
        raise BadChanges(changes)
    return told


def is_offer(work, value):
    """Whether any value is a change that can be made by itself, with a price."""
    if not isinstance(value, tuple) or len(value) != 2 or work_with(work, (value[0],)) is None:
        return False
    return is_integer(value[1]) and 1 <= value[1] <= MOST_PRICE


def are_offers(work, value):
    """Whether any value is an ascending tuple of offers, no change twice."""
    if not isinstance(value, tuple) or not 1 <= len(value) <= MOST_OFFERS:
        return False
    if not all([is_offer(work, offer) for offer in value]) or not is_ascending(value):
        return False
    return len(set([change for change, price in value])) == len(value)


def choices_of(work, offers):
    """(price, choice, changed work) for all choices of offers, in sequence."""
    chosen = [(0, ())]
    for change, price in offers:
        chosen = chosen + [(told + price, choice + (change,)) for told, choice in chosen]
    told = [(price, choice, work_with(work, choice)) for price, choice in sorted(chosen)]
    return [(price, choice, mended) for price, choice, mended in told if mended is not None]


def judge_of_offers(work, seen, offers):
    """The judge of what was seen; refuses what are no offers."""
    check_seen(work.house, seen)
    judge = Judge(work.house, seen)
    if not are_offers(work, offers):
        raise BadOffers(offers)
    return judge


def first_sound(work, judge, offers):
    """What cheapest tells, as a judge of what was seen tells it."""
    reasons = []
    for price, choice, mended in choices_of(work, offers):
        told = first_weak(mended, judge)
        if told[0] == "sound":
            return ("choice", price, choice, tuple(reasons))
        reasons.append((choice, told))
    return ("none", tuple(reasons))


def cheapest(work, seen, offers):
    """The cheapest choice of offers by which a work is sound, and why those ahead of it are not enough."""
    return first_sound(work, judge_of_offers(work, seen, offers), offers)


def is_same(value, told):
    """Whether any value is just what is told in tuples, strings and integers."""
    if isinstance(told, tuple):
        if not isinstance(value, tuple) or len(value) != len(told):
            return False
        return all([is_same(one, other) for one, other in zip(value, told)])
    if isinstance(told, str):
        return isinstance(value, str) and value == told
    return is_integer(value) and value == told


def is_reason(work, judge, value, choice):
    """Whether any value is a choice and what weak tells of its work, with any such world and load."""
    if not isinstance(value, tuple) or len(value) != 2 or not is_same(value[0], choice):
        return False
    return is_weak(changed(work, choice), judge, value[1])


def shows_cheapest(work, seen, offers, value):
    """Whether any value is what cheapest tells, with any that weak tells of the choices."""
    judge = judge_of_offers(work, seen, offers)
    told = first_sound(work, judge, offers)
    if not isinstance(value, tuple) or not is_same(value[:-1], told[:-1]):
        return False
    reasons, others = value[-1], told[-1]
    if not isinstance(reasons, tuple) or len(reasons) != len(others):
        return False
    return all([is_reason(work, judge, reason, choice) for reason, (choice, some) in zip(reasons, others)])
