"""A desk: a bench to which lines are said."""

from trustsorted.benches import Bench, do
from trustsorted.errors import BadSay
from trustsorted.houses import House
from trustsorted.journals import read_deed, read_row, read_words, rows_text
from trustsorted.trusting import carries


class Desk:
    """A bench of the house that a text tells."""

    def __init__(self, text):
        self.bench = Bench(House(text))

    def say(self, line):
        """Do what a line says, and answer."""
        words = read_words(line)
        told = None if words is None else answer(self.bench, words)
        if told is None:
            raise BadSay(line)
        return told


def answer(bench, words):
    """The answer to the words of a line, None if they have no form."""
    deed = read_deed(words)
    if deed is not None:
        do(bench, deed)
        return "done"
    if len(words) == 1:
        return short_answer(bench, words[0])
    if words[0] == "order" and len(words) == 4:
        return " ".join(bench.possible(words[1], read_row(words[2]), read_row(words[3])))
    if words[0] == "trust" and len(words) == 3:
        return "yes" if carries(bench.house, bench.seen, words[1], words[2])[0] == "carries" else "no"
    return None


def short_answer(bench, word):
    """The answer to a line of one word, None if it has no form."""
    if word == "undo":
        bench.undo()
        return "done"
    if word == "redo":
        bench.redo()
        return "done"
    if word == "weak":
        return weak_text(bench.weak())
    return str(len(bench)) if word == "lines" else None


def weak_text(told):
    """How is written what weak tells."""
    if told[0] == "sound":
        return "sound"
    files = [rows_text(rows) if rows else "*" for rows in told[3]]
    return f"{told[1]}: " + " / ".join(files)
