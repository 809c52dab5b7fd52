"""Forms of names, and the machines that read names of these forms."""


class Machine:
    """States that read a name sign by sign, several of them at a time.

    `starts` are the states ahead of a name, `ends[state]` tells whether a
    name may end there, and `moves[state][sign]` are the states behind the
    sign with this number.
    """

    def __init__(self, starts, ends, moves):
        self.starts = starts
        self.ends = ends
        self.moves = moves


def read_item(word, signs):
    """The signs and the mark of an item of a form, None if it is no item."""
    body, mark = word, ""
    if word[-1:] in ("?", "+", "*"):
        body, mark = word[:-1], word[-1:]
    if not body or any([sign not in signs for sign in body]):
        return None
    if len(set(body)) < len(body):
        return None
    return body, mark


def read_items(words, signs):
    """The items of a form, None if one of the words is no item."""
    items = [read_item(word, signs) for word in words]
    if any([item is None for item in items]):
        return None
    return tuple(items)


def spread(items):
    """The items with each `+` told as one sign and any number behind it."""
    places = []
    for body, mark in items:
        if mark == "+":
            places.append((body, ""))
            places.append((body, "*"))
        else:
            places.append((body, mark))
    return places


def places_ahead(places, at):
    """The places that can be the next one, where place `at` is reached."""
    ahead = [at]
    while at < len(places) and places[at][1] in ("?", "*"):
        at = at + 1
        ahead.append(at)
    return ahead


def form_rows(signs, items, first):
    """The ends and the moves of a form whose states begin with `first`."""
    places = spread(items)
    ends = []
    moves = []
    for at in range(len(places) + 1):
        ahead = places_ahead(places, at)
        ends.append(len(places) in ahead)
        row = []
        for sign in signs:
            told = [place for place in ahead if place < len(places) and sign in places[place][0]]
            row.append(tuple([first + place + (places[place][1] != "*") for place in told]))
        moves.append(tuple(row))
    return ends, moves


def machine_of(signs, forms):
    """The machine of the names that have one of the forms."""
    starts = []
    ends = []
    moves = []
    for items in forms:
        starts.append(len(ends))
        more_ends, more_moves = form_rows(signs, items, len(ends))
        ends.extend(more_ends)
        moves.extend(more_moves)
    return Machine(tuple(starts), tuple(ends), tuple(moves))


def free_machine(signs):
    """The machine of all names over the signs."""
    return Machine((0,), (True,), (tuple([(0,) for sign in signs]),))


def is_read(machine, numbers):
    """Whether the machine reads a name, told by the numbers of its signs."""
    states = list(machine.starts)
    for number in numbers:
        reached = {}
        for state in states:
            for after in machine.moves[state][number]:
                reached[after] = True
        states = list(reached)
    return any([machine.ends[state] for state in states])
