"""By what pairs of signs a rule orders two names, whatever its ranks are.

A chain is a sequence of (pass, one, other), one and other being numbers of
signs: the first of them that are of unlike classes in this pass tell the
order of the names. If all are alike, the verdict tells it: below 0 for
before, 0 for alike, above 0 for behind.
"""


def run_end(name, at, figures):
    """Where the run of figures ends that goes over place `at` of a name."""
    while at < len(name) and figures >> name[at] & 1:
        at = at + 1
    return at


def figure_pairs(one, other, figures):
    """The pairs of signs and the verdict of a pass figures.

    A figure is never of one class with another sign, so what stands behind
    such a pair is not looked at.
    """
    pairs = []
    at = 0
    while at < len(one) and at < len(other):
        end, other_end = run_end(one, at, figures), run_end(other, at, figures)
        if end > at and other_end > at and end != other_end:
            return pairs, end - other_end
        end = max(end, at + 1)
        pairs.extend(list(zip(one[at:end], other[at:end])))
        at = end
    return pairs, len(one) - len(other)


def pass_pairs(word, one, other, figures):
    """The pairs of signs and the verdict of a pass with this word."""
    far = len(one) - len(other)
    if word == "length":
        return [], far
    if word == "figures":
        return figure_pairs(one, other, figures)
    pairs = list(zip(one, other))
    if word == "back":
        return pairs[::-1], far
    return pairs, far


def chain(words, one, other, figures):
    """The chain and the verdict for two names, by a rule with passes of these words."""
    links = []
    met = {}
    for number, word in enumerate(words):
        pairs, verdict = pass_pairs(word, one, other, figures)
        for low, high in pairs:
            pair = (number, min(low, high), max(low, high))
            if low != high and pair not in met:
                met[pair] = True
                links.append((number, low, high))
        if verdict != 0:
            return tuple(links), verdict
    return tuple(links), 0
