"""Tools that go along files by a rule, promises of files, and what is meant by a tool."""

from trustsorted.checks import check_full, check_load, check_promise, check_rows, check_rule, check_tool
from trustsorted.keys import row_keys


def keys_by(house, rule, rows):
    """What the rows are sorted by, by a rule of a house without known."""
    return row_keys(house.passes(rule), rows)


def kept_once(keys):
    """The numbers of the rows that keep keeps."""
    kept = []
    for at, key in enumerate(keys):
        if not kept or keys[kept[-1]] != key:
            kept.append(at)
    return kept


def merged(load, keys, others):
    """The rows that merge takes."""
    taken = []
    at, place = 0, 0
    while at < len(keys) or place < len(others):
        if place == len(others) or at < len(keys) and keys[at] <= others[place]:
            taken.append(load[0][at])
            at = at + 1
        else:
            taken.append(load[1][place])
            place = place + 1
    return tuple(taken)


def matched(keys, others, keeps_alike):
    """The numbers of the rows of the first file that both keeps, or only if `keeps_alike` is False."""
    kept = []
    at, place = 0, 0
    while at < len(keys) and place < len(others):
        if others[place] < keys[at]:
            place = place + 1
        else:
            if (keys[at] == others[place]) == keeps_alike:
                kept.append(at)
            at = at + 1
    return kept if keeps_alike else kept + list(range(at, len(keys)))


def was_found(keys, key):
    """Whether find finds what is sorted by a key."""
    first, behind = 0, len(keys)
    while first < behind:
        middle = first + (behind - first) // 2
        if keys[middle] == key:
            return True
        if key < keys[middle]:
            behind = middle
        else:
            first = middle + 1
    return False


def cut_out(keys, low, high):
    """The numbers of the rows that cut keeps."""
    first = 0
    while first < len(keys) and keys[first] < low:
        first = first + 1
    behind = first
    while behind < len(keys) and keys[behind] <= high:
        behind = behind + 1
    return list(range(first, behind))


def done_by(house, tool, load):
    """What a tool does with a load: the rows, or whether it was found."""
    word, rule = tool[0], tool[1]
    keys = [keys_by(house, rule, rows) for rows in load]
    bounds = keys_by(house, rule, tool[2:])
    if word == "merge":
        return merged(load, keys[0], keys[1])
    if word == "find":
        return was_found(keys[0], bounds[0])
    if word == "keep":
        kept = kept_once(keys[0])
    elif word == "cut":
        kept = cut_out(keys[0], bounds[0], bounds[1])
    else:
        kept = matched(keys[0], keys[1], word == "both")
    return tuple([load[0][at] for at in kept])


def is_sequence(house, rule, rows):
    """Whether no row is behind the next one by a rule, however many and long they are."""
    keys = keys_by(house, rule, rows)
    return all([keys[at] <= keys[at + 1] for at in range(len(keys) - 1)])


def is_kept(house, promise, rows):
    """Whether rows keep a promise, however many and long they are."""
    rule, unlikes, cuts = promise
    if not is_sequence(house, rule, rows):
        return False
    for other in unlikes:
        if len(set(keys_by(house, other, rows))) < len(rows):
            return False
    for other, low, high in cuts:
        bounds = keys_by(house, other, (low, high))
        if not all([bounds[0] <= key <= bounds[1] for key in keys_by(house, other, rows)]):
            return False
    return True


def is_done(house, rule, tool, load):
    """Whether a tool does with a load what is meant, however many and long the rows are."""
    word, other = tool[0], tool[1]
    told = done_by(house, tool, load)
    if word == "merge":
        return is_sequence(house, rule, told)
    keys = [keys_by(house, other, rows) for rows in load]
    if word == "find":
        return told == (keys_by(house, other, tool[2:])[0] in keys[0])
    if word == "keep":
        return len(set(keys_by(house, other, told))) == len(told)
    if word == "cut":
        low, high = keys_by(house, other, tool[2:])
        return told == tuple([row for row, key in zip(load[0], keys[0]) if low <= key <= high])
    if word == "both":
        return told == tuple([row for row, key in zip(load[0], keys[0]) if key in keys[1]])
    return not any([key in keys[1] for key in keys_by(house, other, told)])


def used(house, tool, load):
    """The rows that a tool keeps or takes of a load; for find whether it was found."""
    check_full(house)
    check_tool(house, tool)
    check_load(house, tool, load)
    return done_by(house, tool, load)


def keeps(house, promise, rows):
    """Whether a file keeps a promise."""
    check_full(house)
    check_promise(house, promise)
    check_rows(house, rows)
    return is_kept(house, promise, rows)


def meant(house, rule, tool, load):
    """Whether a tool does with a load what is meant; what merge takes is to be listed by the rule."""
    check_full(house)
    check_rule(house, rule)
    check_tool(house, tool)
    check_load(house, tool, load)
    return is_done(house, rule, tool, load)
