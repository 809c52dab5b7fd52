"""Section 8: sets of names."""

import inspect
import itertools
import random
import re
import unittest

from tests.draws import draw_form
from tests.test_tools import Refusals
from tests.values import any_values, strange_values
from trustsorted.errors import BadForms, BadLength, BadSigns, OrderError, OtherSigns, TooMany
from trustsorted.houses import House
from trustsorted.sets import Names

AB = ("a", "b")
SIGNS = "abcdef"

# Sets of 300 states, and of one more; counted once more by hand of `quotients` below.
FULL = (
    "abcdef* a? bf abcdef cdef acef*", "abcdef* abcef abcef bcdef abe a", "abcdef* be abdef bcde abcdef? abcde?",
    "bdef abe* abcef? cd abcd*",
)
OVERFULL = (
    "abcdef* abcdef abce abcdf abcdef abcdef", "abcdef* abce e abcdef* adef? c", "acf ac bcde? bdef b",
    "abcdef* acf abcdef abcdef abcdef df",
)


def words(signs, most):
    return ["".join(told) for size in range(most + 1) for told in itertools.product(signs, repeat=size)]


def pattern_of(form):
    """A pattern of Python's own for a form of names."""
    parts = []
    for item in form.split():
        mark = item[-1] if item[-1] in "?+*" else ""
        parts.append("[" + "".join(re.escape(sign) for sign in item.rstrip("?+*")) + "]" + mark)
    return re.compile("".join(parts))


def plain_set(signs, forms, most):
    """All names of some forms of at most so many signs."""
    patterns = [pattern_of(form) for form in forms]
    return {word for word in words(signs, most) if any(pattern.fullmatch(word) for pattern in patterns)}


def plain_table(signs, is_in, most):
    """The table of the least machine, states told apart by rests of names of at most so many signs."""
    rests = words(signs, most)
    told = {}

    def mark(word):
        if word not in told:
            told[word] = tuple(is_in(word + rest) for rest in rests)
        return told[word]

    queue, numbers, rows = [""], {mark(""): 0}, []
    for word in queue:
        row = []
        for sign in signs:
            after = mark(word + sign)
            if after not in numbers:
                numbers[after] = len(queue)
                queue.append(word + sign)
            row.append(numbers[after])
        rows.append((is_in(word), tuple(row)))
    return tuple(rows)


def positions(form):
    """(signs, may be left out, may come again) for each item."""
    items = []
    for item in form.split():
        body, mark = item.rstrip("?+*"), item[-1] if item[-1] in "?+*" else ""
        items.append((body, mark in ("?", "*"), mark in ("+", "*")))
    return items


def after_sign(items, places, sign):
    """The places of a form at which one can be behind a sign: how many items are done, and whether in the last one."""
    found = set()
    for done, inside in places:
        if inside and items[done][2] and sign in items[done][0]:
            found.add((done, True))
        at = done + inside
        while at < len(items):
            if sign in items[at][0]:
                found.add((at, True))
            if not items[at][1]:
                break
            at += 1
    return frozenset(found)


def may_end(items, places):
    return any(all(item[1] for item in items[done + inside:]) for done, inside in places)


def quotients(signs, forms):
    """How many states the least machine has, counted by parting states until none are left to be parted."""
    forms = [positions(form) for form in forms]
    first = tuple(frozenset([(0, False)]) for _ in forms)
    queue, numbers, moves = [first], {first: 0}, []
    for state in queue:
        row = []
        for sign in signs:
            after = tuple(after_sign(items, places, sign) for items, places in zip(forms, state))
            if after not in numbers:
                numbers[after] = len(queue)
                queue.append(after)
            row.append(numbers[after])
        moves.append(row)
    blocks = [any(may_end(items, places) for items, places in zip(forms, state)) for state in queue]
    while True:
        keys = [(blocks[at],) + tuple(blocks[after] for after in moves[at]) for at in range(len(queue))]
        told = {key: number for number, key in enumerate(dict.fromkeys(keys))}
        if len(told) == len(set(blocks)):
            return len(told)
        blocks = [told[key] for key in keys]


def finite_states(signs, names):
    """How many states the least machine of some names has: the sets of their rests."""
    rests = {}
    for name in names:
        for at in range(len(name) + 1):
            rests.setdefault(name[:at], set()).add(name[at:])
    kinds = {frozenset(told) for told in rests.values()}
    return len(kinds | {frozenset()})


def draw_forms(drawn, signs, most_items=3):
    forms = [draw_form(drawn, signs, most_items)[6:] for _ in range(drawn.randint(0, 4))]
    return tuple(form if drawn.random() < 0.9 else "" for form in forms)


class OfTest(unittest.TestCase):

    def assert_is(self, names, signs, most, right):
        """Whether a set has just these names among the short ones, by each way of asking."""
        self.assertEqual({word for word in words(signs, most) if word in names}, right)
        for size in range(most + 1):
            self.assertEqual(names.many(size), sum(len(word) == size for word in right))
        if right:
            order = [(len(word), [signs.index(sign) for sign in word], word) for word in right]
            self.assertEqual(names.shortest, min(order)[2])

    def test_forms(self):
        for forms, right in (
            ((), set()), (("",), {""}), (("a",), {"a"}), (("ab?",), {"", "a", "b"}), (("a b",), {"ab"}), (("a+ b?", ""), {
                "", "a", "aa", "aaa", "ab", "aab"}), (("b* a",), {"a", "ba", "bba"}), (("ab", "a a", "b"), {"a", "b", "aa"}),
            (("a? a? a? a? a? a?",), {"", "a", "aa", "aaa"}), (("a", "a", "a", "a"), {"a"}),
        ):
            self.assert_is(Names.of(AB, forms), AB, 3, right)

    def test_beside_a_plain_list(self):
        for seed in range(200):
            drawn = random.Random(seed)
            signs = tuple(drawn.sample(["a", "b", "A", "1", "-", "_", "."], drawn.randint(1, 3)))
            forms = draw_forms(drawn, signs, 6)
            most = 6 if len(signs) < 3 else 5
            self.assert_is(Names.of(signs, forms), signs, most, plain_set(signs, forms, most))

    def test_signs_keep_their_sequence(self):
        one, other = Names.of(("b", "a"), ("ab",)), Names.of(AB, ("ba",))
        self.assertEqual((one.signs, one.shortest, other.shortest), (("b", "a"), "b", "a"))
        self.assertFalse(one == other)
        self.assertEqual(Names.of(AB, ("ab",)), other)

    def test_value_in_names(self):
        names = Names.of(("a", "-", "."), ("a+ .", "-"))
        self.assertIs("a." in names, True)
        self.assertIs("a" * 3000 + "." in names, True)
        self.assertIs("." in names, False)
        for value in any_values() + [("a", "."), ["a."], b"a.", "a.b", "a. ", "a.\n", " ", "A."]:
            self.assertIs(value in names, False, value)
        self.assertIs("" in Names.of(AB, ("",)), True)

    def test_many(self):
        names = Names.of(tuple("abcdefgh"), ("abcdefgh*",))
        for length in (0, 1, 2, 50, 200):
            self.assertEqual(names.many(length), 8 ** length)
        self.assertEqual(Names.of(AB, ("a+ b+",)).many(200), 199)
        self.assertEqual(names.many(length=3), 512)

    def test_endless(self):
        for forms, told in (((), False), (("",), False), (("a b",), False), (("a*",), True), (("a? b+", ""), True), (("a b c+",), True)):
            names = Names.of(("a", "b", "c"), forms)
            self.assertIs(names.is_endless, told)
            self.assertIs((~names).is_endless, True)
            self.assertIs((names & Names.of(names.signs, ("a? b? c?",))).is_endless, False)
        self.assertIs((~Names.of(AB, ("ab* a", "", "ab* b"))).is_endless, False)
        self.assertIs((Names.of(AB, ("ab*",)) - Names.of(AB, ("ab+",))).is_endless, False)


class TableTest(unittest.TestCase):

    def test_tables(self):
        for forms, table in (
            ((), ((False, (0, 0)),)), (("ab*",), ((True, (0, 0)),)), (("",), ((True, (1, 1)), (False, (1, 1)))),
            (("a+ b?", ""), ((True, (1, 2)), (True, (1, 3)), (False, (2, 2)), (True, (2, 2)))),
            (("b",), ((False, (1, 2)), (False, (1, 1)), (True, (1, 1)))),
        ):
            self.assertEqual(Names.of(AB, forms).table, table)

    def test_kinds_of_values(self):
        table = Names.of(AB, ("a* b",)).table
        self.assertIs(type(table), tuple)
        for row in table:
            self.assertEqual([type(row), type(row[0]), type(row[1])], [tuple, bool, tuple])
            self.assertTrue(all(type(number) is int for number in row[1]))
            self.assertEqual((len(row), len(row[1])), (2, 2))

    def test_least_and_numbered_in_breadth(self):
        for seed in range(120):
            drawn = random.Random(seed)
            signs = tuple(drawn.sample(["a", "b", "1", "-"], drawn.randint(1, 2)))
            forms = draw_forms(drawn, signs)
            patterns = [pattern_of(form) for form in forms]
            right = plain_table(signs, lambda word: any(pattern.fullmatch(word) for pattern in patterns), 6)
            self.assertEqual(Names.of(signs, forms).table, right, (signs, forms))

    def test_equal_sets(self):
        one, other = Names.of(AB, ("a+ b*", "")), Names.of(AB, ("", "a+", "a a* b+"))
        self.assertEqual(one, other)
        self.assertEqual(one.table, other.table)
        self.assertIs(one != other, False)
        self.assertIs(one == Names.of(AB, ("a* b*",)), False)
        for value in any_values() + [one.table, (one.signs, one.table), House("signs a b\nrule r\n  ranks a b")]:
            self.assertIs(one == value, False)
            self.assertIs(value == one, False)
        self.assertNotEqual(Names.of(("a",), ("a",)), Names.of(("b",), ("b",)))


class OperatorsTest(Refusals):

    def test_beside_plain_sets(self):
        for seed in range(150):
            drawn = random.Random(seed)
            signs = tuple(drawn.sample(["a", "b", "1"], drawn.randint(1, 3)))
            told = [draw_forms(drawn, signs) for _ in range(2)]
            most = 6 if len(signs) < 3 else 5
            one, other = [Names.of(signs, forms) for forms in told]
            first, second = [plain_set(signs, forms, most) for forms in told]
            for names, right in (
                (one | other, first | second), (one & other, first & second), (one - other, first - second),
                (~one, set(words(signs, most)) - first), (~(one | ~other), second - first), (other - one, second - first),
            ):
                self.assertIs(type(names), Names)
                self.assertEqual(names.signs, signs)
                self.assertEqual({word for word in words(signs, most) if word in names}, right)
            self.assertIs(one.is_within(other), (one - other).shortest is None)
            if one.is_within(other):
                self.assertLessEqual(first, second)
            self.assertEqual(~~one, one)
            self.assertEqual(one | other, ~(~one & ~other))
            self.assertEqual(one - other, one & ~other)
            self.assertEqual((one & other).table, (other & one).table)
            self.assertTrue((one & other).is_within(one) and one.is_within(one | other) and one.is_within(one))

    def test_results_are_least_tables(self):
        for seed in range(40):
            drawn = random.Random(seed)
            signs = ("a", "b")
            told = [draw_forms(drawn, signs) for _ in range(2)]
            one, other = [Names.of(signs, forms) for forms in told]
            for names in (one | other, one & other, one - other, ~one):
                self.assertEqual(names.table, plain_table(signs, lambda word: word in names, 7))

    def test_within(self):
        a, many = Names.of(AB, ("a",)), Names.of(AB, ("a*",))
        self.assertIs(a.is_within(many), True)
        self.assertIs(many.is_within(other=a), False)
        self.assertIs(Names.of(AB, ()).is_within(a), True)
        self.assertIs((~a).is_within(~many), False)
        self.assertIs((~many).is_within(~a), True)

    def test_nothing_changes(self):
        one, other = Names.of(AB, ("a+",)), Names.of(AB, ("b",))
        tables = one.table, other.table
        held = one
        held |= other
        self.assertEqual((one.table, other.table), tables)
        self.assertEqual(held, Names.of(AB, ("a+", "b")))
        self.assertIs(one.is_within(other), False)
        self.assertEqual((one.table, one.signs, other.table), (tables[0], AB, tables[1]))

    def test_other_signs(self):
        one = Names.of(AB, ("a",))
        for other in (Names.of(("b", "a"), ("a",)), Names.of(("a",), ("a",)), Names.of(("a", "b", "c"), ("a",)), Names.of(("A", "b"), ())):
            self.assert_raises(OtherSigns, other, lambda: one | other)
            self.assert_raises(OtherSigns, other, lambda: one & other)
            self.assert_raises(OtherSigns, other, lambda: one - other)
            self.assert_raises(OtherSigns, one, lambda: other | one)
            self.assert_raises(OtherSigns, other, one.is_within, other)

    def test_other_sides(self):
        one = Names.of(AB, ("a",))
        for value in any_values() + [one.table, {"a"}, House("signs a b\nrule r\n  ranks a b")]:
            if not isinstance(value, Names):
                self.assert_raises(OtherSigns, value, one.is_within, value)
                for act in (
                    lambda: one | value, lambda: one & value, lambda: one - value,
                    lambda: value | one, lambda: value & one, lambda: value - one,
                ):
                    self.assertRaises(TypeError, act)
        for act in (
            lambda: one + one, lambda: one * one, lambda: one ^ one, lambda: one < one, lambda: one <= one, lambda: -one, lambda: +one,
            lambda: one % one, lambda: one << one, lambda: list(one), lambda: len(one), lambda: one[0], lambda: one(), lambda: one / one,
        ):
            self.assertRaises(TypeError, act)


class BoundsTest(Refusals):

    def test_forms_of_three_hundred_states(self):
        signs = tuple(SIGNS)
        self.assertEqual((quotients(signs, FULL), quotients(signs, OVERFULL)), (300, 301))
        names = Names.of(signs, FULL)
        self.assertEqual(len(names.table), 300)
        self.assertEqual(len((~names).table), 300)
        self.assertEqual(names | names, names)
        with self.assertRaises(TooMany) as caught:
            Names.of(signs, OVERFULL)
        self.assertEqual((caught.exception.value, type(caught.exception.value)), (300, int))

    def test_forms_with_fewer_states_than_they_seem_to_have(self):
        self.assertEqual(len(Names.of(tuple(SIGNS), OVERFULL[:3] + ("abcdef*",)).table), 1)

    def test_operators_at_three_hundred_states(self):
        drawn, signs, told, last = random.Random(7), tuple("abcdefgh"), set(), None
        names = Names.of(signs, ())
        while len(names.table) < 300 or finite_states(signs, told | {last}) != 301:
            last = "".join(drawn.choice(signs) for _ in range(drawn.randint(1, 6)))
            many = finite_states(signs, told | {last})
            if many <= 300:
                told.add(last)
                names = names | Names.of(signs, (" ".join(last),))
                self.assertEqual(len(names.table), many)
        self.assertEqual(len(names.table), 300)
        more = Names.of(signs, (" ".join(last),))
        for act in (lambda: names | more, lambda: ~names & ~more, lambda: ~names - more, lambda: more | names):
            with self.assertRaises(TooMany) as caught:
                act()
            self.assertEqual(caught.exception.value, 300)
        self.assertEqual(names - more, names)
        self.assertIs(names.is_within(~more), True)
        self.assertIs((~names).is_within(more), False)
        self.assertEqual(sum(names.many(size) for size in range(8)), len(told))
        self.assertEqual({word for word in told if word in names}, told)


class ErrorsTest(Refusals):

    def test_signs(self):
        for value in strange_values(tuple) + [
            (), ("a", "a"), ("ab",), ("",), ("?",), ("+",), ("*",), ("=",), (" ",), (1,), (True,), (None,), (("a",),), (["a"],), "ab", ["a", "b"],
            tuple("abcdefghi"), ("a", "b", 1), ("a", ["b"]), ({"a": 1},), (b"a",), ("\n",), ("a", "b", "a"),
        ]:
            self.assert_raises(BadSigns, value, Names.of, value, 1)
        for value in (("a",), tuple("abcdefgh"), ("-", "_", "."), ("A", "z", "0", "9")):
            self.assertEqual(Names.of(value, ()).signs, value)

    def test_forms(self):
        for value in strange_values(tuple) + [
            (1,), (None,), (True,), (("a",),), (["a"],), ("c",), ("a", "c"), ("a a a a a a a",), (" ",), (" a",), ("a ",), ("a  b",), ("aa",),
            ("?",), ("a??",), ("a+*",), ("a\nb",), ("*a",), ("a", "b", "ab", "", "a b"), ["a"], "a", ("a", b"b"), ("a-",), ("A",), ("a\tb",),
        ]:
            self.assert_raises(BadForms, value, Names.of, AB, value)
        for value in ((), ("", "", "", ""), ("a? b? a b a+ b*",)):
            self.assertIsNotNone(Names.of(AB, value))

    def test_lengths(self):
        names = Names.of(AB, ("ab*",))
        for value in strange_values(int) + [True, False, -1, 201, 10 ** 30, "1", 1.0]:
            self.assert_raises(BadLength, value, names.many, value)
        self.assertEqual(names.many(200), 2 ** 200)

    def test_errors_keep_any_value(self):
        for error in (BadSigns, BadForms, OtherSigns, TooMany, BadLength):
            self.assertEqual(error.__bases__, (OrderError,))
            for value in any_values():
                self.assertIs(error(value).value, value)

    def test_interface(self):
        self.assertEqual(list(inspect.signature(Names.of).parameters), ["signs", "forms"])
        self.assertEqual(Names.of(forms=("a",), signs=AB), Names.of(AB, ("a",)))
        for word in ("of", "many", "is_within", "__contains__", "__or__", "__and__", "__sub__", "__invert__", "__eq__"):
            self.assertIn(word, vars(Names))
        self.assertEqual(list(inspect.signature(Names.many).parameters)[1:], ["length"])
        self.assertEqual(list(inspect.signature(Names.is_within).parameters)[1:], ["other"])
        names = Names.of(AB, ())
        self.assertEqual((names.signs, names.table, names.shortest, names.is_endless), (AB, ((False, (0, 0)),), None, False))


if __name__ == "__main__":
    unittest.main()
