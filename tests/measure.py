"""What the functions of section 6 tell, beside a plain list of worlds and names."""

from tests.plain import Plain, all_names, all_worlds, fitting_rules

RELATIONS = ("carries", "together", "agreed", "same")
WORDS = {"carries": "not", "together": "apart", "agreed": "clash", "same": "unlike"}


def sign_of(number):
    return (number > 0) - (number < 0)


def is_broken(relation, first, second, names):
    """Whether names show that a relation does not hold, in worlds of both rules."""
    if relation == "together":
        one, middle, other = names
        return first(one, middle) <= 0 and first(middle, other) <= 0 and second(one, other) == 0 != second(one, middle)
    one, other = names
    if relation == "carries":
        return first(one, other) <= 0 < second(one, other)
    if relation == "agreed":
        return first(one, other) < 0 < second(one, other)
    return sign_of(first(one, other)) != sign_of(second(one, other))


def tables(plains, rule, names):
    """What the worlds tell of all pairs of names, each table once."""
    found = {}
    for plain in plains:
        key = tuple(sign_of(plain.compare(rule, one, other)) for one in names for other in names)
        found[key] = True
    told = []
    for key in found:
        pairs = [(one, other) for one in names for other in names]
        table = dict(zip(pairs, key))
        told.append(lambda one, other, table=table: table[one, other])
    return told


def tuples(names, many):
    told = [()]
    for _ in range(many):
        told = [some + (name,) for some in told for name in names]
    return sorted(told, key=lambda some: max(len(name) for name in some))


def least_length(text, seen, relation, rules, most):
    """The least length of the longest name that breaks a relation; None with none up to most."""
    fits = fitting_rules(text, seen)
    names = list(all_names(text, most))
    firsts, seconds = tables(fits[rules[0]], rules[0], names), tables(fits[rules[1]], rules[1], names)
    for some in tuples(names, 3 if relation == "together" else 2):
        if any(is_broken(relation, first, second, some) for first in firsts for second in seconds):
            return max(len(name) for name in some)
    return None


def most_length(text, many):
    """The greatest length up to which there are no more than so many names."""
    most = 0
    while most < 6 and len(list(all_names(text, most + 1))) <= many:
        most += 1
    return most


def complaint(text, seen, relation, rules, told, most):
    """What is wrong with what a function told of two rules, "" if nothing is."""
    least = least_length(text, seen, relation, rules, most)
    if told == (relation,):
        return "" if least is None else f"names of {least} signs break it"
    if told[0] != WORDS[relation]:
        return "it begins with a wrong word"
    if told[1].text not in all_worlds(text):
        return "it tells no world"
    plain = Plain(told[1].text)
    if not all(plain.is_listed(rule, rows) for rule, rows in seen):
        return "its world does not fit"
    names = told[2:]
    if not all(name in list(all_names(text, len(name))) for name in names):
        return "it tells what is no name"

    def first(one, other):
        return plain.compare(rules[0], one, other)

    def second(one, other):
        return plain.compare(rules[1], one, other)

    if not is_broken(relation, first, second, names):
        return "its names do not break it"
    length = max(len(name) for name in names)
    if length <= most and least != length or length > most and least is not None:
        return f"its names are too long: {length}, not {least}"
    return ""
