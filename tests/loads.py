"""Tools, promises and least loads that deceive, told plainly and gone through one by one."""

import itertools

from tests.measure import sign_of
from tests.plain import Plain, all_names, all_worlds, fitting_rules

FILES = {"keep": 1, "merge": 2, "both": 2, "only": 2, "find": 1, "cut": 1}


def plain_used(compare, tool, load):
    """What a tool does, row by row; compare(rule, one, other) is below 0 for before, 0 for alike."""
    word, rule = tool[:2]
    rows = list(load[0])
    others = list(load[1]) if len(load) > 1 else []
    out = []
    if word == "keep":
        for row in rows:
            if not out or compare(rule, row, out[-1]) != 0:
                out.append(row)
    elif word == "merge":
        while rows or others:
            if not others or rows and not compare(rule, rows[0], others[0]) > 0:
                out.append(rows.pop(0))
            else:
                out.append(others.pop(0))
    elif word in ("both", "only"):
        while rows and others:
            told = compare(rule, rows[0], others[0])
            if told > 0:
                others.pop(0)
            else:
                row = rows.pop(0)
                if (told == 0) == (word == "both"):
                    out.append(row)
        if word == "only":
            out.extend(rows)
    elif word == "find":
        while rows:
            middle = len(rows) // 2
            told = compare(rule, tool[2], rows[middle])
            if told == 0:
                return True
            rows = rows[:middle] if told < 0 else rows[middle + 1:]
        return False
    else:
        while rows and compare(rule, rows[0], tool[2]) < 0:
            rows.pop(0)
        while rows and compare(rule, rows[0], tool[3]) <= 0:
            out.append(rows.pop(0))
    return tuple(out)


def plain_listed(compare, rule, rows):
    return all(compare(rule, one, other) <= 0 for one, other in zip(rows, rows[1:]))


def plain_keeps(compare, promise, rows):
    rule, unlikes, cuts = promise
    if not plain_listed(compare, rule, rows):
        return False
    for one, other in itertools.combinations(rows, 2):
        if any(compare(unlike, one, other) == 0 for unlike in unlikes):
            return False
    return all(compare(cut, low, row) <= 0 <= compare(cut, high, row) for cut, low, high in cuts for row in rows)


def plain_meant(compare, rule, tool, load):
    told = plain_used(compare, tool, load)
    word, by = tool[:2]
    if word == "merge":
        return plain_listed(compare, rule, told)
    if word == "keep":
        return all(compare(by, one, other) != 0 for one, other in itertools.combinations(told, 2))
    if word == "find":
        return told == any(compare(by, tool[2], row) == 0 for row in load[0])
    if word == "cut":
        return list(told) == [
            row for row in load[0] if compare(by, row, tool[2]) >= 0 and compare(by, row, tool[3]) <= 0]
    alike = [row for row in load[0] if any(compare(by, row, other) == 0 for other in load[1])]
    if word == "both":
        return list(told) == alike
    return not any(row in alike for row in told)


def splits(rows, files):
    if files == 1:
        yield (rows,)
        return
    for at in range(len(rows) + 1):
        yield (rows[:at], rows[at:])


def rule_tables(text, seen, rules, names):
    """For each rule the different tables of all pairs of names in the worlds that fit."""
    fits = fitting_rules(text, seen)
    found = {}
    for rule in rules:
        tables = {}
        for plain in fits[rule]:
            pairs = [(one, other) for one in names for other in names]
            tables[tuple(sign_of(plain.compare(rule, one, other)) for one, other in pairs)] = pairs
        found[rule] = [dict(zip(pairs, key)) for key, pairs in tables.items()]
    return found


def rules_of(promises, tool):
    rules = {tool[1]}
    for rule, unlikes, cuts in promises:
        rules.update([rule], unlikes, [cut[0] for cut in cuts])
    return sorted(rules)


def names_of(promises, tool):
    return set(tool[2:]) | {name for promise in promises for cut in promise[2] for name in cut[1:]}


def least_load(text, seen, promises, tool, most, limit=10 ** 9):
    """(rows, signs of the longest row) of a least load that deceives, of names of at most so many signs.

    None if there is none, "many" if there are too many to go through.
    """
    names = list(all_names(text, most))
    rules = rules_of(promises, tool)
    tables = rule_tables(text, seen, rules, set(names) | names_of(promises, tool))
    worlds = [dict(zip(rules, some)) for some in itertools.product(*(tables[rule] for rule in rules))]
    if len(worlds) * len(names) ** 3 > limit:
        return "many"
    best = None
    for world in worlds:
        compare = lambda rule, one, other: world[rule][one, other]
        for many in range(4):
            if best is not None and best[0] < many:
                break
            for rows in itertools.product(names, repeat=many):
                size = max([len(row) for row in rows], default=0)
                if best is not None and best <= (many, size):
                    continue
                for load in splits(rows, FILES[tool[0]]):
                    if all(plain_keeps(compare, promise, told) for promise, told in zip(promises, load)):
                        if not plain_meant(compare, promises[0][0], tool, load):
                            best = (many, size)
                            break
    return best


def wrong_load(text, seen, promises, tool, told, most, limit=10 ** 9):
    """What is wrong with what trust told, "" if nothing is, None if there is too much to go through."""
    least = least_load(text, seen, promises, tool, most, limit)
    if told == ("right",):
        return None if least == "many" else "" if least is None else f"a load of {least} deceives it"
    if told[0] != "deceived" or len(told) != 3:
        return "it begins with a wrong word"
    if told[1].text not in all_worlds(text):
        return "it tells no world"
    plain = Plain(told[1].text)
    if not all(plain.is_listed(rule, rows) for rule, rows in seen):
        return "its world does not fit"
    load = told[2]
    rows = [row for file in load for row in file]
    size = max(len(row) for row in rows)
    if len(load) != FILES[tool[0]] or not all(row in list(all_names(text, size)) for row in rows):
        return "it tells no load"
    if not all(plain_keeps(plain.compare, promise, file) for promise, file in zip(promises, load)):
        return "its load does not keep the promises"
    if plain_meant(plain.compare, promises[0][0], tool, load):
        return "its load does not deceive"
    if least == "many":
        return None
    if size <= most and least != (len(rows), size):
        return f"it tells {(len(rows), size)}, not {least}"
    if size > most and least is not None and least[0] <= len(rows):
        return f"it tells {(len(rows), size)}, not {least}"
    return ""
