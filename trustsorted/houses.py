"""Houses: signs, and rules by which names are ordered."""

from trustsorted.checks import check_full, check_name, check_rows, check_rule
from trustsorted.errors import NoRule
from trustsorted.forms import free_machine, machine_of
from trustsorted.keys import name_key, row_keys
from trustsorted.reading import read_house
from trustsorted.worlds import keeps_facts, lore_of, stands_for, world_text


class House:
    """Signs, forms of names, and rules, as a text tells them.

    `machine` reads the names of the house.
    """

    def __init__(self, text):
        signs, forms, rules = read_house(text)
        self.text = text
        self.signs = signs
        self.rules = tuple(rules)
        self.is_full = all([facts is None for rule in rules for word, classes, facts in rules[rule]])
        self.machine = machine_of(signs, forms) if forms else free_machine(signs)
        self._passes = rules

    def passes(self, rule):
        """The passes (word, classes, facts) of a rule."""
        if rule not in self:
            raise NoRule(rule)
        return self._passes[rule]

    def __len__(self):
        return len(self.rules)

    def __contains__(self, value):
        return isinstance(value, str) and value in self.rules

    def __eq__(self, other):
        return isinstance(other, House) and self.text == other.text


def order(house, rule, one, other):
    """How one name stands to another one by a rule: before, alike or behind."""
    check_full(house)
    check_rule(house, rule)
    check_name(house, one)
    check_name(house, other)
    return told_order(house, rule, one, other)


def told_order(house, rule, one, other):
    """How one name stands to another one, however long they are."""
    keys = [name_key(house.passes(rule), name) for name in (one, other)]
    if keys[0] == keys[1]:
        return "alike"
    return "before" if keys[0] < keys[1] else "behind"


def listed(house, rule, rows):
    """The file sorted by the rule; rows that are alike stay in their sequence."""
    check_full(house)
    check_rule(house, rule)
    check_rows(house, rows)
    return told_listed(house, rule, rows)


def told_listed(house, rule, rows):
    """The rows sorted by the rule, however many and long they are."""
    keys = sorted([(key, at) for at, key in enumerate(row_keys(house.passes(rule), rows))])
    return tuple([rows[at] for key, at in keys])


def is_listed(house, rule, rows):
    """Whether no row of a file is behind the next one by the rule."""
    check_full(house)
    check_rule(house, rule)
    check_rows(house, rows)
    keys = row_keys(house.passes(rule), rows)
    return all([keys[at] <= keys[at + 1] for at in range(len(keys) - 1)])


def is_world(house, value):
    """Whether any value is a world of the house."""
    if not isinstance(value, House) or not value.is_full:
        return False
    if not stands_for(house.text.split("\n"), value.text.split("\n")):
        return False
    return all([keeps_facts(house.passes(rule), value.passes(rule)) for rule in house.rules])


def world(house):
    """Any world of the house."""
    return House(world_text(house, lore_of(house, ()), {}))
