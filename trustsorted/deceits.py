"""The loads by which tools are deceived: which rows they have, and how these stand to one another.

Whatever load deceives a tool, a few of its rows do as well: they are listed
like all of them, and keep the same promises.

- keep: it keeps two rows that are alike. The row that it kept behind the
  first one of them is not alike to it, and stands between them.
- merge: two rows that were taken one behind the other are not listed. Either
  the second file had them so, or each one is from another file; then both
  stood ahead when the first of them was taken.
- both, only: a row was left, though one like it was in the second file,
  or kept. Either this one had been left for a row that is behind it, ahead of
  the row in the first file; or the row met one that is behind it, ahead of
  this one in the second file.
- find: it went the wrong way at a row. If it went on behind it, the row that
  is alike and this one are enough: find looks at the second one of two rows.
  If it went on ahead of it, there was a row ahead, too, at which find must
  not find what it looks for; it looks at the second one of three rows.
- cut: a row that was not behind the upper bound stopped it, or a row that is
  before the lower bound stood behind one that is not.
"""

from trustsorted.points import ALIKE, BEFORE, BEHIND, NOT_BEHIND, UNLIKE


class Deceit:
    """Files of rows, told by numbers, and what deceives a tool of them: (rule, one, other, words).

    one and other are the numbers of rows, or names that are given.
    """

    def __init__(self, files, told):
        self.files = files
        self.told = told
        self.size = sum([len(rows) for rows in files])


def keep_deceits(rule):
    """The deceits of the tool keep."""
    return [[Deceit(((0, 1, 2),), [(rule, 0, 2, ALIKE), (rule, 0, 1, UNLIKE)])]]


def merge_deceits(rule, listing):
    """The deceits of the tool merge, where what it takes is to be listed by the rule `listing`."""
    spoilt = (listing, 1, 0, BEFORE)
    return [[
        Deceit(((), (0, 1)), [spoilt]),
        Deceit(((0,), (1,)), [spoilt, (rule, 0, 1, NOT_BEHIND)]),
        Deceit(((1,), (0,)), [spoilt, (rule, 0, 1, BEFORE)]),
    ]]


def match_deceits(rule):
    """The deceits of the tools both and only: rows 1 and 2 are alike, and do not meet."""
    return [[
        Deceit(((0, 1), (2,)), [(rule, 1, 2, ALIKE), (rule, 2, 0, BEFORE)]),
        Deceit(((1,), (0, 2)), [(rule, 1, 2, ALIKE), (rule, 1, 0, BEFORE)]),
    ]]


def find_deceits(rule, name):
    """The deceits of the tool find, those of two rows ahead of those of three."""
    return [
        [Deceit(((0, 1),), [(rule, 0, name, ALIKE), (rule, 1, name, BEFORE)])],
        [Deceit(((0, 1, 2),), [(rule, 0, name, UNLIKE), (rule, 1, name, BEHIND), (rule, 2, name, ALIKE)])],
    ]


def cut_deceits(rule, low, high):
    """The deceits of the tool cut."""
    return [[
        Deceit(((0, 1),), [(rule, 0, high, BEHIND), (rule, low, 1, NOT_BEHIND), (rule, 1, high, NOT_BEHIND)]),
        Deceit(((0, 1),), [(rule, low, 0, NOT_BEHIND), (rule, 0, high, NOT_BEHIND), (rule, 1, low, BEFORE)]),
    ]]


def promised(promise, rows):
    """What a promise tells of the rows of a file."""
    rule, unlikes, cuts = promise
    told = [(rule, one, other, NOT_BEHIND) for one, other in zip(rows, rows[1:])]
    for other in unlikes:
        told.extend([(other, one, row, UNLIKE) for one in rows for row in rows if one < row])
    for other, low, high in cuts:
        for row in rows:
            told.append((other, low, row, NOT_BEHIND))
            told.append((other, row, high, NOT_BEHIND))
    return told


def deceits_of(promises, tool):
    """Lists of deceits of a tool on files that keep the promises, those of fewer rows ahead."""
    if tool[0] == "keep":
        stages = keep_deceits(tool[1])
    elif tool[0] == "merge":
        stages = merge_deceits(tool[1], promises[0][0])
    elif tool[0] == "find":
        stages = find_deceits(tool[1], tool[2])
    elif tool[0] == "cut":
        stages = cut_deceits(tool[1], tool[2], tool[3])
    else:
        stages = match_deceits(tool[1])
    for stage in stages:
        for deceit in stage:
            for promise, rows in zip(promises, deceit.files):
                deceit.told.extend(promised(promise, rows))
    return stages
