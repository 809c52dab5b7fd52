"""Tables of machines that read names sign by sign, with one state at a time.

A table is a tuple with (is_end, (number, ..)) for each state: whether a name
may end there, and to which state each sign leads. State 0 is the first one.
"""

from trustsorted.errors import TooMany

MOST_STATES = 300


def merged_states(ends, moves):
    """A mark for each state; those with the same names behind them have the same mark."""
    marks = [1 if is_end else 0 for is_end in ends]
    many = 0
    while many < len(set(marks)):
        many = len(set(marks))
        keys = [(mark,) + tuple([marks[after] for after in row]) for mark, row in zip(marks, moves)]
        numbers = {}
        for key in keys:
            numbers.setdefault(key, len(numbers))
        marks = [numbers[key] for key in keys]
    return marks


def least_states(ends, moves):
    """(ends, moves) of the least machine that reads the same names, its states as they come in breadth."""
    marks = merged_states(ends, moves)
    firsts = {}
    for state, mark in enumerate(marks):
        firsts.setdefault(mark, state)
    numbers = {marks[0]: 0}
    queue = [marks[0]]
    rows = []
    at = 0
    while at < len(queue):
        row = []
        for after in moves[firsts[queue[at]]]:
            if marks[after] not in numbers:
                numbers[marks[after]] = len(queue)
                queue.append(marks[after])
            row.append(numbers[marks[after]])
        rows.append(tuple(row))
        at = at + 1
    return [ends[firsts[mark]] for mark in queue], rows


def least_table(ends, moves):
    """The table of the least machine that reads the same names; TooMany if it has too many states."""
    told = least_states(ends, moves)
    if len(told[0]) > MOST_STATES:
        raise TooMany(MOST_STATES)
    return tuple(list(zip(told[0], told[1])))


def subset_states(machine, many):
    """(ends, moves) of the sets of states that a machine for so many signs can be in at a time."""
    numbers = {tuple(sorted(machine.starts)): 0}
    queue = [tuple(sorted(machine.starts))]
    ends = []
    moves = []
    at = 0
    while at < len(queue):
        row = []
        for sign in range(many):
            afters = tuple(sorted(set([after for state in queue[at] for after in machine.moves[state][sign]])))
            if afters not in numbers:
                numbers[afters] = len(queue)
                queue.append(afters)
            row.append(numbers[afters])
        ends.append(any([machine.ends[state] for state in queue[at]]))
        moves.append(tuple(row))
        at = at + 1
    return ends, moves


def paired_states(one, other, kept):
    """(ends, moves) of two tables side by side.

    `kept` tells whether a name is kept that neither of them reads, only the
    second one, only the first one, both.
    """
    numbers = {(0, 0): 0}
    queue = [(0, 0)]
    ends = []
    moves = []
    at = 0
    while at < len(queue):
        first, second = one[queue[at][0]], other[queue[at][1]]
        row = []
        for pair in zip(first[1], second[1]):
            if pair not in numbers:
                numbers[pair] = len(queue)
                queue.append(pair)
            row.append(numbers[pair])
        ends.append(kept[(2 if first[0] else 0) + (1 if second[0] else 0)])
        moves.append(tuple(row))
        at = at + 1
    return ends, moves


def gone_through(reader, many):
    """(ends, moves) of all to which a reader comes, with so many signs.

    A reader tells where it begins, where it is behind a sign, and whether a
    name can end there.
    """
    numbers = {reader.begin(): 0}
    queue = [reader.begin()]
    ends = []
    moves = []
    at = 0
    while at < len(queue):
        row = []
        for sign in range(many):
            after = reader.behind(queue[at], sign)
            if after not in numbers:
                numbers[after] = len(queue)
                queue.append(after)
            row.append(numbers[after])
        ends.append(reader.can_end(queue[at]))
        moves.append(tuple(row))
        at = at + 1
    return ends, moves


def is_read_by(table, numbers):
    """Whether a table reads a name, told by the numbers of its signs."""
    state = 0
    for number in numbers:
        state = table[state][1][number]
    return table[state][0]


def first_name(table, signs):
    """The shortest name that a table reads, of these the first one by the signs; None if there is none."""
    names = {0: ""}
    queue = [0]
    at = 0
    while at < len(queue):
        state = queue[at]
        if table[state][0]:
            return names[state]
        for sign, after in zip(signs, table[state][1]):
            if after not in names:
                names[after] = names[state] + sign
                queue.append(after)
        at = at + 1
    return None


def counts(table, length):
    """For each state how many names of a length are read from there on."""
    many = [1 if is_end else 0 for is_end, row in table]
    for _ in range(length):
        many = [sum([many[after] for after in row]) for is_end, row in table]
    return many


def has_no_end(table):
    """Whether there is no greatest number of names that a least table reads.

    States with nothing but states without an end behind them are left out,
    but the one behind which there are no names, until none are left to be.
    """
    left = {
        state: True for state, (is_end, row) in enumerate(table)
        if is_end or any([after != state for after in row])
    }
    many = 0
    while many != len(left):
        many = len(left)
        left = {state: True for state in left if any([after in left for after in table[state][1]])}
    return many > 0


def is_nowhere(ends, moves, state):
    """Whether a state of a machine leads but to itself, and no name may end there."""
    return not ends[state] and all([after == state for after in moves[state]])
