"""The worlds of a house: what fits them, and their texts."""

from trustsorted.errors import Unfit
from trustsorted.lore import Lore


def lore_of(house, seen):
    """What the house, and the listings that were seen, tell of each rule."""
    return {rule: Lore(house, rule, [rows for told, rows in seen if told == rule]) for rule in house.rules}


def fits_any(lores):
    """Whether some world fits all that is told."""
    return all([lores[rule].start is not None for rule in lores])


def fitting_lore(house, seen):
    """What is told of each rule; Unfit if no world fits it."""
    lores = lore_of(house, seen)
    if not fits_any(lores):
        raise Unfit(seen)
    return lores


def is_known_line(line):
    """Whether a line of a house is one with known."""
    return line[:2] == "  " and line[2:].split(" ")[1:2] == ["known"]


def class_line(line, classes):
    """The line of a world that stands in the place of a line with known."""
    words = ["=".join(list(part)) for part in classes]
    return "  " + " ".join([line[2:].split(" ")[0]] + words)


def world_text(house, lores, known):
    """The text of a world that fits, in which all stands that is known of some rules."""
    told = {}
    for name in lores:
        lore = lores[name]
        told[name] = lore.classes(known.get(name, lore.start))
    lines = []
    rule, number = "", 0
    for line in house.text.split("\n"):
        if line[:5] == "rule ":
            rule, number = line[5:], -1
        elif line[:2] == "  ":
            number = number + 1
        lines.append(class_line(line, told[rule][number]) if is_known_line(line) else line)
    return "\n".join(lines)


def stands_for(lines, others):
    """Whether other lines are those of a house, but for the ranks in lines with known."""
    if len(lines) != len(others):
        return False
    for line, other in zip(lines, others):
        head = "  " + line[2:].split(" ")[0] + " "
        if line != other and not (is_known_line(line) and other.startswith(head)):
            return False
    return True


def keeps_fact(places, fact):
    """Whether a fact (sign, word, sign) holds where the classes stand at these places."""
    low, word, high = places[fact[0]], fact[1], places[fact[2]]
    if word == "<":
        return low < high
    if word == "<=":
        return low <= high
    return low == high if word == "=" else low != high


def keeps_facts(passes, told):
    """Whether all facts of the passes hold with the classes of the told passes."""
    for number in range(len(passes)):
        if passes[number][2] is not None:
            places = {sign: at for at, part in enumerate(told[number][1]) for sign in part}
            if not all([keeps_fact(places, fact) for fact in passes[number][2]]):
                return False
    return True
