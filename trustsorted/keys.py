"""Keys by which names are sorted as a rule without known orders them."""

from trustsorted.signs import FIGURES


def runs(name):
    """The tokens of a name: runs of figures, and other signs."""
    tokens = []
    for sign in name:
        if tokens and sign in FIGURES and tokens[-1][0] in FIGURES:
            tokens[-1] = tokens[-1] + sign
        else:
            tokens.append(sign)
    return tokens


def token_key(places, first, token):
    """What a token is sorted by; all figures stand at the place `first`."""
    if token[0] in FIGURES:
        return (first, len(token), tuple([places[sign] for sign in token]))
    return (places[token], 0, ())


def pass_key(told, name):
    """What a name is sorted by in a pass (word, classes, facts)."""
    word, classes = told[0], told[1]
    if word == "length":
        return (len(name),)
    places = {sign: at for at, part in enumerate(classes) for sign in part}
    if word == "figures":
        first = min([places[sign] for sign in places if sign in FIGURES], default=0)
        return tuple([token_key(places, first, token) for token in runs(name)])
    key = tuple([places[sign] for sign in name])
    return key[::-1] if word == "back" else key


def name_key(passes, name):
    """What a name is sorted by, by a rule with these passes."""
    return tuple([pass_key(told, name) for told in passes])


def row_keys(passes, rows):
    """What rows are sorted by; those that are the same are worked out once."""
    keys = {row: name_key(passes, row) for row in sorted(set(rows))}
    return [keys[row] for row in rows]
