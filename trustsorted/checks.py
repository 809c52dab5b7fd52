"""What is asked of the arguments of functions."""

from trustsorted.errors import BadName, BadRows, BadSeen, NoRule, NotFull
from trustsorted.forms import is_read

MOST_LETTERS = 100
MOST_ROWS = 40
MOST_LISTINGS = 8


def is_integer(value):
    """Whether any value is an integer."""
    return isinstance(value, int) and not isinstance(value, bool)


def is_told(value, length, word):
    """Whether any value is a tuple of this length that begins with a word."""
    if not isinstance(value, tuple) or len(value) != length:
        return False
    return isinstance(value[0], str) and value[0] == word


def has_name(house, value):
    """Whether any value is a name of the house, however long it is."""
    if not isinstance(value, str) or any([sign not in house.signs for sign in value]):
        return False
    return is_read(house.machine, [house.signs.index(sign) for sign in value])


def is_name(house, value):
    """Whether any value is a name of the house that may be handed in."""
    return isinstance(value, str) and len(value) <= MOST_LETTERS and has_name(house, value)


def is_file(house, value):
    """Whether any value is a file of the house."""
    if not isinstance(value, tuple) or len(value) > MOST_ROWS:
        return False
    return all([is_name(house, row) for row in value])


def is_listing(house, value):
    """Whether any value is a listing of the house."""
    if not isinstance(value, tuple) or len(value) != 2 or value[0] not in house:
        return False
    return is_file(house, value[1]) and len(value[1]) >= 2


def is_seen(house, value):
    """Whether any value is a tuple of listings of the house."""
    if not isinstance(value, tuple) or len(value) > MOST_LISTINGS:
        return False
    return all([is_listing(house, listing) for listing in value])


def check_full(house):
    """Refuse a house with known."""
    if not house.is_full:
        raise NotFull(house)


def check_rule(house, value):
    """Refuse what is not the name of a rule of the house."""
    if value not in house:
        raise NoRule(value)


def check_name(house, value):
    """Refuse what is no name of the house."""
    if not is_name(house, value):
        raise BadName(value)


def check_rows(house, value):
    """Refuse what is no file of the house."""
    if not is_file(house, value):
        raise BadRows(value)


def check_seen(house, value):
    """Refuse what is no tuple of listings of the house."""
    if not is_seen(house, value):
        raise BadSeen(value)
