"""Works, their changes, and benches, told once more and plainly, in the words of the document.

Nothing here imports the package.
"""

import functools
import itertools
import re

from tests.loads import plain_used
from tests.plain import Plain, all_names

NAME = "([a-z]{1,8})"
RULE = FROM = "([a-z]{1,8})"
ROW = r"([a-zA-Z0-9\-_.]{1,20})"
LINES = (
    f"(file) {NAME} by {RULE}", f"(sort) {NAME} by {RULE} of {FROM}", f"(keep) {NAME} by {RULE} of {FROM}",
    f"(cut) {NAME} by {RULE} of {FROM} from {ROW} to {ROW}", f"(merge) {NAME} by {RULE} of {FROM} and {FROM}",
    f"(both) {NAME} by {RULE} of {FROM} and {FROM}", f"(only) {NAME} by {RULE} of {FROM} and {FROM}",
    f"(find) {NAME} by {RULE} of {FROM} for {ROW}",
)
FROMS = {"file": 0, "sort": 1, "keep": 1, "cut": 1, "merge": 2, "both": 2, "only": 2, "find": 1}


@functools.lru_cache(None)
def name_pattern(text):
    """A pattern of the names of a house."""
    plain = Plain(text)
    forms = []
    for items in plain.forms:
        parts = []
        for item in items:
            mark = item[-1] if item[-1] in "?+*" else ""
            parts.append("[" + "".join(re.escape(sign) for sign in item.rstrip("?+*")) + "]" + mark)
        forms.append("".join(parts))
    signs = "[" + "".join(re.escape(sign) for sign in plain.signs) + "]*"
    return re.compile("|".join(forms) if forms else signs)


def split_line(line):
    """(word, name, rule, froms, rows) of a line, None if it has no form."""
    for pattern in LINES:
        match = re.fullmatch(pattern, line)
        if match:
            word, name, rule, *rest = match.groups()
            many = FROMS[word]
            return word, name, rule, tuple(rest[:many]), tuple(rest[many:])
    return None


def plain_promise(word, rule, froms, rows, promises):
    """What the table tells of the promise of a line."""
    if word == "file":
        return (rule, (), ())
    if word == "find":
        return None
    told = promises[froms[0]]
    if word == "sort":
        return (rule,) + told[1:]
    if word == "keep":
        return (told[0], tuple(sorted({*told[1], rule})), told[2])
    if word == "cut":
        return (told[0], told[1], tuple(sorted({*told[2], (rule, *rows)})))
    if word == "merge":
        return (told[0], (), tuple(sorted({*told[2]} & {*promises[froms[1]][2]})))
    return told


def plain_work(text, work):
    """[(word, name, rule, froms, rows, promise), ..] of a work, or the number of the first wrong line."""
    told = []
    rules = list(Plain(text).rules)
    promises = {}
    for number, line in enumerate(work.split("\n"), 1):
        parts = split_line(line)
        if number > 12 or parts is None:
            return number
        word, name, rule, froms, rows = parts
        if name in promises or rule not in rules or any(promises.get(some) is None for some in froms):
            return number
        if not all(name_pattern(text).fullmatch(row) for row in rows):
            return number
        promise = plain_promise(word, rule, froms, rows, promises)
        if promise is not None and len(promise[2]) > 4:
            return number
        promises[name] = promise
        told.append((word, name, rule, froms, rows, promise))
    return told


def plain_tool(part):
    word, name, rule, froms, rows, promise = part
    return None if word in ("file", "sort") else (word, rule, *rows)


def plain_results(text, work, files):
    """What each line is, row by row."""
    plain = Plain(text)
    made, left = {}, list(files)
    for part in plain_work(text, work):
        word, name, rule, froms, rows, promise = part
        if word == "file":
            made[name] = left.pop(0)
        elif word == "sort":
            made[name] = tuple(sorted(made[froms[0]], key=functools.cmp_to_key(functools.partial(plain.compare, rule))))
        else:
            made[name] = plain_used(plain.compare, plain_tool(part), tuple(made[some] for some in froms))
    return tuple(made.values())


def is_plain_change(parts, change):
    """Whether a change, ("by", number, rule) or ("sort", number), speaks of a line of which it can."""
    part = parts[change[1] - 1]
    return change[2] != part[2] if change[0] == "by" else plain_tool(part) is not None


def plain_changed(text, work, changes):
    """The text of the changed work, None if the changes cannot be made."""
    parts = plain_work(text, work)
    if not all(is_plain_change(parts, change) for change in changes):
        return None
    if len({change[:2] for change in changes}) < len(changes):
        return None
    taken = [part[1] for part in parts]
    lines = []
    for number, line in enumerate(work.split("\n"), 1):
        words = line.split(" ")
        for change in changes:
            if change[:2] == ("by", number):
                words[3] = change[2]
        if ("sort", number) in changes:
            new = {}
            for name in parts[number - 1][3]:
                if name not in new:
                    new[name] = next(letter for letter in "abcdefghijklmnopqrstuvwxyz" if letter not in taken)
                    taken.append(new[name])
                    lines.append(f"sort {new[name]} by {words[3]} of {name}")
            for at in (5, 7)[:len(parts[number - 1][3])]:
                words[at] = new[words[at]]
        lines.append(" ".join(words))
    told = "\n".join(lines)
    return told if isinstance(plain_work(text, told), list) else None


def plain_choices(text, work, offers):
    """(price, choice, text of the work) of all choices, in sequence."""
    told = []
    for many in range(len(offers) + 1):
        for some in itertools.combinations(offers, many):
            choice = tuple(change for change, price in some)
            mended = plain_changed(text, work, choice)
            if mended is not None:
                told.append((sum(price for change, price in some), choice, mended))
    return sorted(told)


def all_changes(text, work):
    """All changes of lines of a work, be it that they can be made or not."""
    parts = plain_work(text, work)
    changes = [("by", number, rule) for number in range(1, len(parts) + 1) for rule in Plain(text).rules]
    changes += [("sort", number) for number in range(1, len(parts) + 1)]
    return sorted(change for change in changes if is_plain_change(parts, change))


def draw_row(drawn, names):
    return drawn.choice([name for name in names if name])


def draw_line(drawn, word, name, rules, files, names):
    line = f"{word} {name} by {drawn.choice(rules)}"
    if word != "file":
        line += f" of {drawn.choice(files)}"
    if word in ("merge", "both", "only"):
        line += f" and {drawn.choice(files)}"
    if word == "cut":
        line += f" from {draw_row(drawn, names)} to {draw_row(drawn, names)}"
    if word == "find":
        line += f" for {draw_row(drawn, names)}"
    return line


def draw_work(drawn, text, most, names=None):
    """The text of a work of a house, of at most so many lines."""
    rules = list(Plain(text).rules)
    names = names or [name for name in all_names(text, 2) if name]
    lines, files = [], []
    pool = drawn.sample([*"abcdefgh", "old", "new", "of", "by", "from", "and", "to", "for", "file", "longname", "z", "sort"], 14)
    for _ in range(drawn.randint(1, most)):
        words = ["keep", "keep", "merge", "both", "only", "sort"] + (["cut", "cut", "cut", "find"] if names else [])
        word = drawn.choice(words) if files and drawn.random() < 0.8 else "file"
        name = pool.pop()
        line = draw_line(drawn, word, name, rules, files, names)
        if isinstance(plain_work(text, "\n".join(lines + [line])), list):
            lines.append(line)
            if word != "find":
                files.append(name)
    return "\n".join(lines)


class PlainBench:
    """A plain row of deeds; what is refused is told as None."""

    def __init__(self, text, fits):
        self.text = text
        self.fits = fits
        self.row = [((), (), None)]
        self.at = 0

    def now(self):
        return self.row[self.at][:2]

    def journal(self):
        return tuple(told for lines, seen, told in self.row[1:self.at + 1])

    def deed(self, lines, seen, told):
        self.row = self.row[:self.at + 1] + [(lines, seen, told)]
        self.at += 1
        return True

    def is_work(self, lines):
        return isinstance(plain_work(self.text, "\n".join(lines)), list)

    def add(self, line):
        lines, seen = self.now()
        lines = lines + (line,)
        return "\n" not in line and self.is_work(lines) and self.deed(lines, seen, "add " + line) or "BadLine"

    def put(self, number, line):
        lines, seen = self.now()
        if not 1 <= number <= len(lines):
            return "NoLine"
        lines = lines[:number - 1] + (line,) + lines[number:]
        return "\n" not in line and self.is_work(lines) and self.deed(lines, seen, f"put {number} {line}") or "BadLine"

    def drop(self, number):
        lines, seen = self.now()
        if not 1 <= number <= len(lines):
            return "NoLine"
        lines = lines[:number - 1] + lines[number:]
        return (not lines or self.is_work(lines)) and self.deed(lines, seen, f"drop {number}") or "Needed"

    def see(self, rule, rows):
        lines, seen = self.now()
        pattern = name_pattern(self.text)
        if rule not in Plain(self.text).rules or len(rows) < 2 or not all(pattern.fullmatch(row) for row in rows):
            return "BadSeen"
        if len(seen) == 8:
            return "BadSeen"
        seen = seen + ((rule, rows),)
        told = " ".join(["see", rule] + [row or '""' for row in rows])
        return self.fits(seen) and self.deed(lines, seen, told) or "Unfit"

    def undo(self):
        if self.at == 0:
            return "NothingToUndo"
        self.at -= 1
        return True

    def redo(self):
        if self.at + 1 == len(self.row):
            return "NothingToRedo"
        self.at += 1
        return True
