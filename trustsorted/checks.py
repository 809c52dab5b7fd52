"""What is asked of the arguments of functions."""

from trustsorted.errors import (
    BadLoad, BadName, BadPromise, BadPromises, BadRows, BadSeen, BadTool, NoRule, NotFull
)
from trustsorted.forms import is_read

MOST_LETTERS = 100
MOST_ROWS = 40
MOST_LISTINGS = 8
MOST_SIGNS = 20
MOST_CUTS = 4
TOOLS = {"keep": (1, 2), "merge": (2, 2), "both": (2, 2), "only": (2, 2), "find": (1, 3), "cut": (1, 4)}


def is_integer(value):
    """Whether any value is an integer."""
    return isinstance(value, int) and not isinstance(value, bool)


def is_told(value, length, word):
    """Whether any value is a tuple of this length that begins with a word."""
    if not isinstance(value, tuple) or len(value) != length:
        return False
    return isinstance(value[0], str) and value[0] == word


def has_name(house, value):
    """Whether any value is a name of the house, however long it is."""
    if not isinstance(value, str) or any([sign not in house.signs for sign in value]):
        return False
    return is_read(house.machine, [house.signs.index(sign) for sign in value])


def is_name(house, value):
    """Whether any value is a name of the house that may be handed in."""
    return isinstance(value, str) and len(value) <= MOST_LETTERS and has_name(house, value)


def is_file(house, value):
    """Whether any value is a file of the house."""
    if not isinstance(value, tuple) or len(value) > MOST_ROWS:
        return False
    return all([is_name(house, row) for row in value])


def is_listing(house, value):
    """Whether any value is a listing of the house."""
    if not isinstance(value, tuple) or len(value) != 2 or value[0] not in house:
        return False
    return is_file(house, value[1]) and len(value[1]) >= 2


def is_seen(house, value):
    """Whether any value is a tuple of listings of the house."""
    if not isinstance(value, tuple) or len(value) > MOST_LISTINGS:
        return False
    return all([is_listing(house, listing) for listing in value])


def check_full(house):
    """Refuse a house with known."""
    if not house.is_full:
        raise NotFull(house)


def check_rule(house, value):
    """Refuse what is not the name of a rule of the house."""
    if value not in house:
        raise NoRule(value)


def check_name(house, value):
    """Refuse what is no name of the house."""
    if not is_name(house, value):
        raise BadName(value)


def check_rows(house, value):
    """Refuse what is no file of the house."""
    if not is_file(house, value):
        raise BadRows(value)


def check_seen(house, value):
    """Refuse what is no tuple of listings of the house."""
    if not is_seen(house, value):
        raise BadSeen(value)


def is_short_name(house, value):
    """Whether any value is a name of the house that may stand in tools and promises."""
    return isinstance(value, str) and len(value) <= MOST_SIGNS and has_name(house, value)


def is_ascending(values):
    """Whether values that can be sorted are ascending, without duplicates."""
    return all([values[at] < values[at + 1] for at in range(len(values) - 1)])


def is_tool(house, value):
    """Whether any value is a tool of the house."""
    if not isinstance(value, tuple) or len(value) < 2 or not isinstance(value[0], str):
        return False
    if TOOLS.get(value[0], (0, 0))[1] != len(value) or value[1] not in house:
        return False
    return all([is_short_name(house, name) for name in value[2:]])


def files_of(tool):
    """How many files a tool takes."""
    return TOOLS[tool[0]][0]


def is_load(house, tool, value):
    """Whether any value is a load of a tool."""
    if not isinstance(value, tuple) or len(value) != files_of(tool):
        return False
    return all([is_file(house, rows) for rows in value])


def is_cut(house, value):
    """Whether any value is (rule, low, high)."""
    if not isinstance(value, tuple) or len(value) != 3 or value[0] not in house:
        return False
    return is_short_name(house, value[1]) and is_short_name(house, value[2])


def is_promise(house, value):
    """Whether any value is a promise of a file."""
    if not isinstance(value, tuple) or len(value) != 3 or value[0] not in house:
        return False
    unlikes, cuts = value[1], value[2]
    if not isinstance(unlikes, tuple) or not all([rule in house for rule in unlikes]):
        return False
    if not isinstance(cuts, tuple) or len(cuts) > MOST_CUTS or not all([is_cut(house, told) for told in cuts]):
        return False
    return is_ascending(unlikes) and is_ascending(cuts)


def are_promises(house, tool, value):
    """Whether any value is a tuple of a promise for each file of a tool."""
    if not isinstance(value, tuple) or len(value) != files_of(tool):
        return False
    return all([is_promise(house, promise) for promise in value])


def check_tool(house, value):
    """Refuse what is no tool of the house."""
    if not is_tool(house, value):
        raise BadTool(value)


def check_load(house, tool, value):
    """Refuse what is no load of a tool."""
    if not is_load(house, tool, value):
        raise BadLoad(value)


def check_promise(house, value):
    """Refuse what is no promise of a file."""
    if not is_promise(house, value):
        raise BadPromise(value)


def check_promises(house, tool, value):
    """Refuse what is no tuple of a promise for each file of a tool."""
    if not are_promises(house, tool, value):
        raise BadPromises(value)
