"""What follows from facts about the classes of the signs of one pass.

Signs are numbers. What is known are two lists of rows of bits: bit j of
`lows[i]` tells that the class of i does not stand behind that of j, bit j of
`belows[i]` that it stands ahead of it. `figures` are the bits of the signs
whose classes stand side by side, 0 if none have to; `unlike` are the pairs of
signs that are not in one class.
"""

from trustsorted.signs import FIGURES


def figure_bits(signs):
    """The bits of the figures among the signs."""
    return sum([1 << at for at, sign in enumerate(signs) if sign in FIGURES])


def linked(lows, belows):
    """What follows by going from one sign over another one to a third one."""
    lows = list(lows)
    belows = list(belows)
    for over in range(len(lows)):
        for at in range(len(lows)):
            if lows[at] >> over & 1:
                belows[at] = belows[at] | belows[over]
            if belows[at] >> over & 1:
                belows[at] = belows[at] | lows[over]
            if lows[at] >> over & 1:
                lows[at] = lows[at] | lows[over]
            lows[at] = lows[at] | belows[at]
    return lows, belows


def parted(lows, belows, unlike):
    """The rows of belows, with what follows for signs that are not in one class."""
    belows = list(belows)
    for one, other in unlike:
        if lows[one] >> other & 1:
            belows[one] = belows[one] | 1 << other
        if lows[other] >> one & 1:
            belows[other] = belows[other] | 1 << one
    return belows


def beside(lows, belows, figures):
    """The rows of belows, with what follows for the figures standing side by side."""
    belows = list(belows)
    above = 0
    for at in range(len(lows)):
        if figures >> at & 1:
            above = above | lows[at] & ~figures
        elif lows[at] & figures:
            belows[at] = belows[at] | figures
    for at in range(len(lows)):
        if figures >> at & 1:
            belows[at] = belows[at] | above
    return belows


def closed(lows, belows, figures, unlike):
    """All that follows: (lows, belows), None if it is at odds with itself."""
    earlier = None
    while earlier != (lows, belows):
        earlier = (lows, belows)
        lows, belows = linked(lows, belows)
        belows = parted(lows, belows, unlike)
        if figures:
            belows = beside(lows, belows, figures)
    if any([belows[at] >> at & 1 for at in range(len(lows))]):
        return None
    return lows, belows


def fact_rows(signs, facts):
    """(lows, belows, unlike) as the facts tell them, before anything is drawn."""
    lows = [1 << at for at in range(len(signs))]
    belows = [0 for sign in signs]
    unlike = []
    for low, word, high in facts:
        one, other = signs.index(low), signs.index(high)
        if word == "!=":
            unlike.append((one, other))
        elif word == "<":
            belows[one] = belows[one] | 1 << other
        else:
            lows[one] = lows[one] | 1 << other
        if word == "=":
            lows[other] = lows[other] | 1 << one
    return lows, belows, tuple(unlike)


def class_rows(signs, classes):
    """(lows, belows) of a world of a pass."""
    places = {sign: at for at, part in enumerate(classes) for sign in part}
    lows = []
    belows = []
    for sign in signs:
        told = [places[sign] - places[other] for other in signs]
        lows.append(sum([1 << at for at, far in enumerate(told) if far <= 0]))
        belows.append(sum([1 << at for at, far in enumerate(told) if far < 0]))
    return lows, belows


def next_class(lows, left, figures):
    """The bits of a class that can stand ahead of all others of those left.

    Once a figure was taken, figures are the bits of those that are left.
    """
    for at in range(len(lows)):
        if left >> at & 1 and (not figures or figures >> at & 1):
            ahead = [other for other in range(len(lows)) if left >> other & 1 and lows[other] >> at & 1]
            if all([lows[at] >> other & 1 for other in ahead]):
                return sum([1 << other for other in ahead])
    return 0


def arranged(signs, lows, figures):
    """A world in which all stands that is known; what is known is closed."""
    left = (1 << len(signs)) - 1
    begun = 0
    classes = []
    while left:
        part = next_class(lows, left, begun)
        left = left & ~part
        begun = figures & left if part & figures else 0
        classes.append(tuple(sorted([sign for at, sign in enumerate(signs) if part >> at & 1])))
    return tuple(classes)


def has_world(signs, word, facts):
    """Whether there is a world of a pass with this word that keeps the facts."""
    lows, belows, unlike = fact_rows(signs, facts)
    figures = figure_bits(signs) if word == "figures" else 0
    return closed(lows, belows, figures, unlike) is not None
