"""What follows, by any rule, where some words are told of pairs of names.

Names are points here, told by numbers. Words are bits, so that several ones
can be told of a pair. A table tells the words for each pair (one, other).
"""

BEFORE = 1
ALIKE = 2
NOT_BEHIND = 3
BEHIND = 4
UNLIKE = 5
ANY = 7

WORDS = {"before": 1, "alike": 2, "behind": 4}
TURNED = (0, 4, 2, 6, 1, 5, 3, 7)


def over(first, second):
    """The words of one and another that can go with those of one and a third, and of the third and the other."""
    if first & BEFORE and second & BEHIND or first & BEHIND and second & BEFORE:
        return ANY
    words = first & second
    if first & ALIKE:
        words = words | second
    if second & ALIKE:
        words = words | first
    return words


def full_table(points, told):
    """The table in which each pair has the words that are told of it, in (one, other, words)."""
    table = {(one, other): ANY for one in points for other in points}
    for point in points:
        table[(point, point)] = ALIKE
    for one, other, words in told:
        table[(one, other)] = table[(one, other)] & words
        table[(other, one)] = TURNED[table[(one, other)]]
    return table


def drawn(told):
    """The table of all that follows from what is told, None if it is at odds with itself."""
    points = sorted(set([point for row in told for point in row[:2]]))
    table = full_table(points, told)
    earlier = {}
    while earlier != table:
        earlier = {pair: table[pair] for pair in table}
        for middle in points:
            for one in points:
                for other in points:
                    words = over(table[(one, middle)], table[(middle, other)])
                    table[(one, other)] = table[(one, other)] & words
    return table if all([table[pair] for pair in table]) else None
