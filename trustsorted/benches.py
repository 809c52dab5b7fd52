"""Benches: works under change, what was seen, and what was done."""

from trustsorted.checks import MOST_LISTINGS, is_integer, is_listing
from trustsorted.errors import (
    BadJournal, BadLine, BadSeen, BadWork, Needed, NoLine, NoTrial, NothingToRedo, NothingToUndo, OrderError
)
from trustsorted.journals import read_deed, read_words, rows_text
from trustsorted.seeing import possible
from trustsorted.works import Work, weak
from trustsorted.worlds import fitting_lore


class Stand:
    """What a bench holds once some deeds are done; it never changes."""

    def __init__(self, lines, seen, work, journal):
        self.lines = lines
        self.seen = seen
        self.work = work
        self.journal = journal


class Trial:
    """A block behind which a bench is as ahead of it, unless it is kept.

    Once it is entered, `outer` is the block around it, None if there is none,
    and `kept` is None as long as it is not kept. The others are those of the
    bench as it was then.
    """

    def __init__(self, bench):
        self.bench = bench

    def __enter__(self):
        bench = self.bench
        self.outer = bench.block
        self.kept = None
        self.stands = bench.stands
        self.done = bench.done
        self.lines = bench.lines
        self.seen = bench.seen
        self.work = bench.work
        self.journal = bench.journal
        bench.block = self
        return bench

    def __exit__(self, kind, value, trace):
        bench = self.bench
        if kind is not None or self.kept is None:
            bench.stands = self.stands
            bench.done = self.done
            bench.lines = self.lines
            bench.seen = self.seen
            bench.work = self.work
            bench.journal = self.journal
        bench.block = self.outer


class Bench:
    """A work under change, and what was seen.

    `stands` tell what the bench held at first and behind each deed, those
    that were undone, too; it is at the one with the number `done`. `block` is
    the innermost block of a trial, None outside of all.
    """

    def __init__(self, house):
        self.house = house
        self.lines = ()
        self.seen = ()
        self.done = 0
        self.work = None
        self.journal = ()
        self.stands = (Stand((), (), None, ()),)
        self.block = None

    def go_to(self, stands, done):
        """Be at one of several stands."""
        stand = stands[done]
        self.stands = stands
        self.done = done
        self.lines = stand.lines
        self.seen = stand.seen
        self.work = stand.work
        self.journal = stand.journal

    def go_on(self, lines, seen, work, told):
        """Be at a new stand behind a deed, of which the journal tells a line."""
        stand = Stand(lines, seen, work, self.journal + (told,))
        self.go_to(self.stands[:self.done + 1] + (stand,), self.done + 1)

    def add(self, line):
        """Put one more line behind the others."""
        lines = self.lines + (line,)
        self.go_on(lines, self.seen, work_with_line(self.house, lines, line), f"add {line}")

    def put(self, number, line):
        """Put another line in the place of one."""
        check_number(self.lines, number)
        lines = self.lines[:number - 1] + (line,) + self.lines[number:]
        self.go_on(lines, self.seen, work_with_line(self.house, lines, line), f"put {number} {line}")

    def drop(self, number):
        """Take a line away."""
        check_number(self.lines, number)
        lines = self.lines[:number - 1] + self.lines[number:]
        work = work_of(self.house, lines)
        if lines and work is None:
            raise Needed(number)
        self.go_on(lines, self.seen, work, f"drop {number}")

    def see(self, rule, rows):
        """See one more listing."""
        listing = (rule, rows)
        if not is_listing(self.house, listing) or len(self.seen) == MOST_LISTINGS:
            raise BadSeen(listing)
        seen = self.seen + (listing,)
        fitting_lore(self.house, seen)
        self.go_on(self.lines, seen, self.work, f"see {rule} {rows_text(rows)}")

    def weak(self):
        """What weak tells of the work; without lines it is sound."""
        return ("sound",) if self.work is None else weak(self.work, self.seen)

    def possible(self, rule, one, other):
        """The words that some world which fits tells of two names."""
        return tuple([word for word, some in possible(self.house, self.seen, rule, one, other)])

    def undo(self):
        """Take the last deed back that stands."""
        if self.done == 0:
            raise NothingToUndo(None)
        self.go_to(self.stands, self.done - 1)

    def redo(self):
        """Do again what was taken back last."""
        if self.done + 1 == len(self.stands):
            raise NothingToRedo(None)
        self.go_to(self.stands, self.done + 1)

    def trial(self):
        """A block behind which the bench is as ahead of it, unless it is kept."""
        return Trial(self)

    def keep(self):
        """Keep what is done in the innermost block."""
        block = self.block
        if block is None:
            raise NoTrial(None)
        block.kept = True

    def tried(self, look, *, keep=False):
        """What a function returns that is called with the bench in a block, which is kept if keep is True."""
        with Trial(self):
            told = look(self)
            if keep is True:
                self.keep()
        return told

    def copy(self):
        """An independent bench, alike in all things, outside of all blocks."""
        other = Bench(self.house)
        other.go_to(self.stands, self.done)
        return other

    def __len__(self):
        return len(self.lines)

    def __getitem__(self, at):
        check_number(self.lines, at)
        return self.lines[at - 1]

    def __setitem__(self, at, worth):
        self.put(at, worth)

    def __iter__(self):
        raise TypeError("benches cannot be gone over")

    def __iadd__(self, other):
        self.add(other)
        return self

    def __isub__(self, other):
        self.drop(other)
        return self

    def __eq__(self, other):
        if not isinstance(other, Bench):
            return False
        return self.house == other.house and self.lines == other.lines and self.seen == other.seen


def check_number(lines, value):
    """Refuse what is not the number of a line."""
    if not is_integer(value) or not 1 <= value <= len(lines):
        raise NoLine(value)


def work_of(house, lines):
    """The work of some lines, None if they are none."""
    try:
        return Work(house, "\n".join(lines))
    except BadWork:
        return None


def work_with_line(house, lines, line):
    """The work of some lines of which one is any value; BadLine if it cannot stand there."""
    if not isinstance(line, str) or "\n" in line:
        raise BadLine(line)
    work = work_of(house, lines)
    if work is None:
        raise BadLine(line)
    return work


def do(bench, deed):
    """Do a deed on a bench."""
    if deed[0] == "add":
        bench.add(deed[1])
    elif deed[0] == "put":
        bench.put(deed[1], deed[2])
    elif deed[0] == "drop":
        bench.drop(deed[1])
    else:
        bench.see(deed[1], deed[2])


def can_do(bench, line):
    """Whether any value is a line of a journal that is not refused; then it is done."""
    words = read_words(line)
    deed = None if words is None else read_deed(words)
    if deed is None:
        return False
    try:
        do(bench, deed)
    except OrderError:
        return False
    return True


def read_bench(house, lines):
    """The bench on which was done what the lines of a journal tell."""
    if not isinstance(lines, tuple):
        raise BadJournal(0)
    bench = Bench(house)
    for number, line in enumerate(lines, start=1):
        if not can_do(bench, line):
            raise BadJournal(number)
    return bench
