"""The lines of works: how they are read and written, and what each of them does and promises."""

from trustsorted.checks import MOST_CUTS, is_short_name
from trustsorted.errors import BadWork
from trustsorted.signs import is_word

MOST_LINES = 12

FORMS = {
    "file": "file NAME by RULE",
    "sort": "sort NAME by RULE of FROM",
    "keep": "keep NAME by RULE of FROM",
    "cut": "cut NAME by RULE of FROM from ROW to ROW",
    "merge": "merge NAME by RULE of FROM and FROM",
    "both": "both NAME by RULE of FROM and FROM",
    "only": "only NAME by RULE of FROM and FROM",
    "find": "find NAME by RULE of FROM for ROW",
}


class Step:
    """A line of a work: its word, its NAME and RULE, its FROMs, and the names of the house that stand in it."""

    def __init__(self, word, name, rule, froms, bounds):
        self.word = word
        self.name = name
        self.rule = rule
        self.froms = froms
        self.bounds = bounds


def read_slots(words):
    """The words in the places of a line that are free, by what stands for them; None if it has no form."""
    if words[0] not in FORMS:
        return None
    form = FORMS[words[0]].split(" ")
    if len(form) != len(words):
        return None
    slots = {"NAME": [], "RULE": [], "FROM": [], "ROW": []}
    for part, word in zip(form, words):
        if part in slots:
            slots[part].append(word)
        elif part != word:
            return None
    return slots


def read_step(house, line, promises):
    """The step that a line tells, None if it cannot stand behind lines with these promises.

    The promises of earlier lines are told by their NAMEs, None for those that are no files.
    """
    words = line.split(" ")
    slots = read_slots(words)
    if slots is None:
        return None
    name, rule, froms, rows = slots["NAME"][0], slots["RULE"][0], tuple(slots["FROM"]), tuple(slots["ROW"])
    if not is_word(name) or name in promises or rule not in house:
        return None
    if any([promises.get(other) is None for other in froms]):
        return None
    if not all([row != "" and is_short_name(house, row) for row in rows]):
        return None
    return Step(words[0], name, rule, froms, rows)


def step_line(step):
    """The line that tells a step."""
    slots = {"NAME": [step.name], "RULE": [step.rule], "FROM": list(step.froms), "ROW": list(step.bounds)}
    words = []
    for part in FORMS[step.word].split(" "):
        words.append(slots[part].pop(0) if part in slots else part)
    return " ".join(words)


def tool_of(step):
    """The tool of a step, None if it has none."""
    if step.word in ("file", "sort"):
        return None
    return (step.word, step.rule) + step.bounds


def promise_of(step, given):
    """The promise of the file that a step makes of files with the given promises, None if it makes none."""
    if step.word == "file":
        return (step.rule, (), ())
    if step.word == "find":
        return None
    rule, unlikes, cuts = given[0]
    if step.word == "sort":
        return (step.rule, unlikes, cuts)
    if step.word == "keep":
        return (rule, with_one(unlikes, step.rule), cuts)
    if step.word == "cut":
        return (rule, unlikes, with_one(cuts, (step.rule,) + step.bounds))
    if step.word == "merge":
        return (rule, (), tuple([cut for cut in cuts if cut in given[1][2]]))
    return given[0]


def with_one(values, value):
    """An ascending tuple with one more value, unless it is there."""
    return values if value in values else tuple(sorted(values + (value,)))


def read_steps(house, text):
    """The steps of the text of a work, and the promises of their files by their NAMEs."""
    if not isinstance(text, str):
        raise BadWork(0)
    steps = []
    promises = {}
    for number, line in enumerate(text.split("\n"), start=1):
        step = read_step(house, line, promises) if number <= MOST_LINES else None
        if step is None:
            raise BadWork(number)
        promise = promise_of(step, [promises[name] for name in step.froms])
        if promise is not None and len(promise[2]) > MOST_CUTS:
            raise BadWork(number)
        promises[step.name] = promise
        steps.append(step)
    return tuple(steps), promises
