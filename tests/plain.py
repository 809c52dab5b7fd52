"""Plain lists of all worlds and all short names, to measure the program by.

Nothing here imports the package: what a house means is told once more, in the
words of the document, and as slowly as these are.
"""

import itertools
import re

FIGURES = "0123456789"


def weak_orders(signs):
    """All sequences of classes of the signs."""
    if not signs:
        yield ()
        return
    for size in range(1, len(signs) + 1):
        for first in itertools.combinations(signs, size):
            rest = [sign for sign in signs if sign not in first]
            for more in weak_orders(rest):
                yield (tuple(sorted(first)),) + more


def place_of(classes, sign):
    for at, part in enumerate(classes):
        if sign in part:
            return at
    raise AssertionError(sign)


def figures_stand_together(classes):
    spots = [at for at, part in enumerate(classes) for sign in part if sign in FIGURES]
    for at, part in enumerate(classes):
        for sign in part:
            if sign not in FIGURES and spots and min(spots) <= at <= max(spots):
                return False
    return True


def keeps(classes, fact):
    low, word, high = re.fullmatch(r"(.)(<=|<|!=|=)(.)", fact).groups()
    one, other = place_of(classes, low), place_of(classes, high)
    return {"<": one < other, "<=": one <= other, "=": one == other, "!=": one != other}[word]


def pass_worlds(line, signs):
    """All lines that stand for the line of a pass in a world."""
    words = line[2:].split(" ")
    if words[1:2] != ["known"]:
        return [line]
    found = []
    for classes in weak_orders(list(signs)):
        if words[0] == "figures" and not figures_stand_together(classes):
            continue
        if all(keeps(classes, fact) for fact in words[2:]):
            found.append("  " + words[0] + " " + " ".join("=".join(part) for part in classes))
    return found


class Plain:
    """A world: signs, forms and passes, as its text tells them."""

    def __init__(self, text):
        self.text = text
        lines = text.split("\n")
        self.signs = lines[0].split(" ")[1:]
        self.forms = [line.split(" ")[1:] for line in lines if line.startswith("names ")]
        self.rules = {}
        for line in lines:
            if line.startswith("rule "):
                passes = self.rules.setdefault(line[5:], [])
            elif line.startswith("  "):
                words = line[2:].split(" ")
                passes.append((words[0], [part.split("=") for part in words[1:]]))

    def compare(self, rule, one, other):
        """Below 0 for before, 0 for alike, above 0 for behind."""
        for word, classes in self.rules[rule]:
            told = compare_by(word, classes, one, other)
            if told:
                return told
        return 0

    def is_listed(self, rule, rows):
        return all(self.compare(rule, one, other) <= 0 for one, other in zip(rows, rows[1:]))


def compare_by(word, classes, one, other):
    if word == "length":
        return len(one) - len(other)
    if word == "back":
        assert len(one) == len(other)
        for low, high in zip(one[::-1], other[::-1]):
            if place_of(classes, low) != place_of(classes, high):
                return place_of(classes, low) - place_of(classes, high)
        return 0
    if word == "ranks":
        lows, highs = list(one), list(other)
    else:
        lows, highs = re.findall("[0-9]+|[^0-9]", one), re.findall("[0-9]+|[^0-9]", other)
    for low, high in zip(lows, highs):
        told = compare_tokens(classes, low, high)
        if told:
            return told
    return len(lows) - len(highs)


def compare_tokens(classes, low, high):
    if low[0] in FIGURES and high[0] in FIGURES:
        if len(low) != len(high):
            return len(low) - len(high)
        for one, other in zip(low, high):
            if place_of(classes, one) != place_of(classes, other):
                return place_of(classes, one) - place_of(classes, other)
        return 0
    return place_of(classes, low[0]) - place_of(classes, high[0])


def rule_worlds(text):
    """For each rule all texts of its lines in a world, and the text ahead of the rules."""
    lines = text.split("\n")
    signs = lines[0].split(" ")[1:]
    head = [line for line in lines if line.startswith(("signs ", "names "))]
    rules = {}
    for line in lines[len(head):]:
        if line.startswith("rule "):
            name = line[5:]
            rules[name] = [[line]]
        else:
            rules[name].append(pass_worlds(line, signs))
    return head, {name: ["\n".join(told) for told in itertools.product(*parts)] for name, parts in rules.items()}


def fitting_rules(text, seen):
    """For each rule all worlds of it alone that fit the listings that were seen."""
    head, rules = rule_worlds(text)
    found = {}
    for name, told in rules.items():
        plains = [Plain("\n".join(head + [some])) for some in told]
        found[name] = [
            plain for plain in plains
            if all(plain.is_listed(rule, rows) for rule, rows in seen if rule == name)
        ]
    return found


def all_worlds(text):
    """The texts of all worlds of a house."""
    head, rules = rule_worlds(text)
    return ["\n".join(head + list(told)) for told in itertools.product(*rules.values())]


def all_names(text, most):
    """All names of at most so many signs, the shorter ones first."""
    plain = Plain(text)
    patterns = []
    for items in plain.forms:
        parts = []
        for item in items:
            mark = item[-1] if item[-1] in "?+*" else ""
            parts.append("[" + "".join(re.escape(sign) for sign in item.rstrip("?+*")) + "]" + mark)
        patterns.append(re.compile("".join(parts)))
    for size in range(most + 1):
        for told in itertools.product(plain.signs, repeat=size):
            name = "".join(told)
            if not patterns or any(pattern.fullmatch(name) for pattern in patterns):
                yield name
