"""Sets of names, told by the least machines that read them."""

from trustsorted.checks import is_integer
from trustsorted.errors import BadForms, BadLength, BadSigns, OtherSigns
from trustsorted.forms import machine_of, read_items
from trustsorted.reading import MOST_ITEMS, MOST_SIGNS
from trustsorted.signs import is_sign
from trustsorted.tables import counts, first_name, has_no_end, is_read_by, least_table, paired_states, subset_states

MOST_FORMS = 4
MOST_LENGTH = 200

EITHER = (False, True, True, True)
BOTH = (False, False, False, True)
FIRST_ONLY = (False, False, True, False)


class Names:
    """A set of names over signs, told by the table of its least machine."""

    def __init__(self, signs, table):
        self.signs = signs
        self.table = table
        self.shortest = first_name(table, signs)
        self.is_endless = has_no_end(table)

    @staticmethod
    def of(signs, forms):
        """The set of the names over some signs that have one of some forms."""
        if not are_signs(signs):
            raise BadSigns(signs)
        if not are_forms(forms, signs):
            raise BadForms(forms)
        machine = machine_of(signs, [items_of(form, signs) for form in forms])
        ends, moves = subset_states(machine, len(signs))
        return Names(signs, least_table(ends, moves))

    def many(self, length):
        """How many names of a length are in the set."""
        if not is_integer(length) or not 0 <= length <= MOST_LENGTH:
            raise BadLength(length)
        return counts(self.table, length)[0]

    def is_within(self, other):
        """Whether all names of this set are in another one."""
        if not isinstance(other, Names) or self.signs != other.signs:
            raise OtherSigns(other)
        ends, moves = paired_states(self.table, other.table, FIRST_ONLY)
        return not any(ends)

    def __contains__(self, value):
        if not isinstance(value, str) or not all([sign in self.signs for sign in value]):
            return False
        return is_read_by(self.table, [self.signs.index(sign) for sign in value])

    def __or__(self, other):
        if not isinstance(other, Names):
            return NotImplemented
        return paired(self, other, EITHER)

    def __and__(self, other):
        if not isinstance(other, Names):
            return NotImplemented
        return paired(self, other, BOTH)

    def __sub__(self, other):
        if not isinstance(other, Names):
            return NotImplemented
        return paired(self, other, FIRST_ONLY)

    def __invert__(self):
        return Names(self.signs, tuple([(not is_end, row) for is_end, row in self.table]))

    def __eq__(self, other):
        return isinstance(other, Names) and self.signs == other.signs and self.table == other.table


def paired(one, other, kept):
    """The set of the names of two sets that are kept, as paired_states tells."""
    if one.signs != other.signs:
        raise OtherSigns(other)
    ends, moves = paired_states(one.table, other.table, kept)
    return Names(one.signs, least_table(ends, moves))


def are_signs(value):
    """Whether any value is a tuple of signs, as a house can have them."""
    if not isinstance(value, tuple) or not 1 <= len(value) <= MOST_SIGNS:
        return False
    return all([isinstance(sign, str) and is_sign(sign) for sign in value]) and len(set(value)) == len(value)


def items_of(form, signs):
    """The items of a form, None if it has not such a form; "" has none."""
    words = form.split(" ") if form else []
    return read_items(words, signs) if len(words) <= MOST_ITEMS else None


def are_forms(value, signs):
    """Whether any value is a tuple of forms of names over some signs."""
    if not isinstance(value, tuple) or len(value) > MOST_FORMS or not all([isinstance(form, str) for form in value]):
        return False
    return not any([items_of(form, signs) is None for form in value])
