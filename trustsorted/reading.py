"""How the text of a house is read."""

from trustsorted.closing import has_world
from trustsorted.errors import BadHouse
from trustsorted.forms import read_items
from trustsorted.signs import FIGURES, is_sign, is_word

FACTS = ("<", "<=", "=", "!=")
MOST_SIGNS = 8
MOST_FORMS = 2
MOST_ITEMS = 6
MOST_RULES = 4
MOST_PASSES = 3
MOST_FACTS = 12


def read_signs(line):
    """The signs that a line tells, None if it is no such line."""
    words = line.split(" ")
    signs = tuple(words[1:])
    if words[0] != "signs" or not 1 <= len(signs) <= MOST_SIGNS:
        return None
    if not all([is_sign(sign) for sign in signs]) or len(set(signs)) < len(signs):
        return None
    return signs


def read_form(line, signs):
    """The items of the form that a line tells, None if it is no such line."""
    words = line.split(" ")
    if words[0] != "names" or not 1 <= len(words) - 1 <= MOST_ITEMS:
        return None
    return read_items(words[1:], signs)


def read_rule(line, earlier):
    """The name of the rule that a line begins, None if it cannot stand."""
    words = line.split(" ")
    if len(words) != 2 or words[0] != "rule" or not is_word(words[1]):
        return None
    if words[1] in earlier or len(earlier) == MOST_RULES:
        return None
    return words[1]


def read_classes(words, signs):
    """The classes that the words tell, None if they do not tell each sign once."""
    parts = [word.split("=") for word in words]
    told = [sign for part in parts for sign in part]
    if sorted(told) != sorted(signs):
        return None
    return tuple([tuple(sorted(part)) for part in parts])


def has_figures_together(classes):
    """Whether the classes of figures stand side by side, without other signs."""
    kinds = [[sign in FIGURES for sign in part] for part in classes]
    if any([any(kind) and not all(kind) for kind in kinds]):
        return False
    places = [at for at, kind in enumerate(kinds) if kind[0]]
    return not places or places[-1] - places[0] == len(places) - 1


def read_fact(word, signs):
    """The fact (sign, word, sign) that a word tells, None if it is none."""
    told = (word[:1], word[1:-1], word[-1:])
    if told[1] not in FACTS or told[0] == told[2]:
        return None
    if told[0] not in signs or told[2] not in signs:
        return None
    return told


def read_facts(words, signs, word):
    """The facts of a pass with this word, None if no world keeps them."""
    if len(words) > MOST_FACTS:
        return None
    facts = [read_fact(told, signs) for told in words]
    if any([fact is None for fact in facts]):
        return None
    if not has_world(signs, word, tuple(facts)):
        return None
    return tuple(facts)


def read_ranks(words, signs):
    """The pass (word, classes, facts) with ranks, None if it is none."""
    word = words[0]
    if words[1:2] == ["known"]:
        facts = read_facts(words[2:], signs, word)
        return None if facts is None else (word, None, facts)
    classes = read_classes(words[1:], signs)
    if classes is None or word == "figures" and not has_figures_together(classes):
        return None
    return (word, classes, None)


def read_pass(line, signs, is_first):
    """The pass (word, classes, facts) that a line tells, None if it is none."""
    if line[:2] != "  ":
        return None
    words = line[2:].split(" ")
    if words == ["length"]:
        return ("length", None, None)
    if words[0] in ("ranks", "figures") or words[0] == "back" and not is_first:
        return read_ranks(words, signs)
    return None


def read_passes(lines, at, signs):
    """The passes that stand from line `at` on, as many as there are."""
    passes = []
    while at < len(lines) and len(passes) < MOST_PASSES:
        told = read_pass(lines[at], signs, not passes)
        if told is None:
            break
        passes.append(told)
        at = at + 1
    return tuple(passes)


def read_rules(lines, at, signs):
    """The passes of each rule by its name; the rules stand from line `at` on."""
    rules = {}
    while at < len(lines):
        name = read_rule(lines[at], rules)
        if name is None:
            raise BadHouse(at + 1)
        passes = read_passes(lines, at + 1, signs)
        if not passes:
            raise BadHouse(at + 2)
        rules[name] = passes
        at = at + 1 + len(passes)
    if not rules:
        raise BadHouse(len(lines) + 1)
    return rules


def read_house(text):
    """The signs, the forms and the rules that the text of a house tells."""
    if not isinstance(text, str):
        raise BadHouse(0)
    lines = text.split("\n")
    signs = read_signs(lines[0])
    if signs is None:
        raise BadHouse(1)
    forms = []
    while len(forms) < MOST_FORMS and len(forms) + 1 < len(lines):
        items = read_form(lines[len(forms) + 1], signs)
        if items is None:
            break
        forms.append(items)
    return signs, tuple(forms), read_rules(lines, len(forms) + 1, signs)
