"""Section 7: tools, loads, promises, and what is meant by a tool."""

import inspect
import random
import unittest

from tests.draws import draw_house
from tests.loads import FILES, plain_keeps, plain_meant, plain_used, splits
from tests.plain import Plain, all_names
from tests.values import any_values, strange_values
from trustsorted.errors import BadLoad, BadPromise, BadRows, BadTool, NoRule, NotFull, OrderError
from trustsorted.houses import House, listed
from trustsorted.tools import keeps, meant, used

TEXT = "signs a A b 1 2\nrule exact\n  ranks 1 2 A a b\nrule loose\n  ranks 1 2 a=A b\nrule fine\n  ranks 1 2 a=A b\n" \
    "  ranks A a b=1=2\nrule value\n  figures 1 2 a=A b"
FORMS = "signs a b\nnames a+ b?\nrule r\n  ranks a b\nrule s\n  length"
DIM = "signs a b\nrule r\n  ranks known\nrule s\n  length"

LONG = "a" * 20
TOO_LONG = "a" * 21


def bad_tools():
    """Values that are no tool of the house of TEXT."""
    good = [
        ("keep", "loose"), ("merge", "loose"), ("both", "loose"), ("only", "loose"),
        ("find", "loose", "a"), ("cut", "loose", "a", "b"),
    ]
    wrong = strange_values()
    for tool in good:
        wrong.extend([tool[:-1], tool[:1], tool + ("a",), tool + ("loose",), list(tool), (tool,), tool[1:]])
        wrong.extend([(tool[0].upper(),) + tool[1:], (tool[0] + " ",) + tool[1:], ("sort",) + tool[1:]])
        for value in [0, None, True, "", "nothing", ("keep",), ["keep"], {"keep": 1}, House(TEXT), b"keep"]:
            wrong.append((value,) + tool[1:])
        for value in [0, None, True, "", "nothing", "Loose", ("loose",), ["loose"], {"loose": 1}, House(TEXT)]:
            wrong.append(tool[:1] + (value,) + tool[2:])
        for at in range(2, len(tool)):
            for value in [0, None, True, "c", "a b", "a\n", TOO_LONG, ("a",), ["a"], {"a": 1}, House(TEXT), b"a"]:
                wrong.append(tool[:at] + (value,) + tool[at + 1:])
    return wrong


def bad_files():
    """Values that are no file of the house of TEXT."""
    return strange_values(tuple) + [
        (1,), (None,), (True,), ("c",), ("a", "c"), ("a", 1), (("a",),), (["a"],), ({"a": 1},), ("a" * 101,),
        ("a",) * 41, ["a"], "a", {"a": 1}, ("a b",), ("a\n",), (House(TEXT),), (b"a",),
    ]


def bad_promises():
    """Values that are no promise of a file of the house of TEXT."""
    cut = ("loose", "a", "b")
    wrong = strange_values() + [
        ("exact",), ("exact", ()), ("exact", (), (), ()), ["exact", (), ()], (("exact", (), ()),), ("nothing", (), ()),
        ((), "exact", ()), ("exact", ("loose", "exact"), ()), ("exact", ("loose", "loose"), ()),
        ("exact", (), (cut, cut)), ("exact", (), (("loose", "b", "b"), cut)), ("exact", (), cut),
        ("exact", (), tuple(("loose", "", "a" * at) for at in range(5))),
    ]
    for value in [0, None, True, "", "loose", ["loose"], {"loose": 1}, ("nothing",), (1,), (None,), (("loose",),), (["loose"],)]:
        wrong.append(("exact", value, ()))
    for value in [0, None, True, "", "loose", [cut], {cut: 1}, (1,), ("loose",), (list(cut),), (cut[:2],), (cut + ("a",),)]:
        wrong.append(("exact", (), value))
    for at in range(3):
        for value in [0, None, True, "c", ("a",), ["loose"], {"a": 1}, House(TEXT), TOO_LONG, "a b"]:
            wrong.append(("exact", (), (cut[:at] + (value,) + cut[at + 1:],)))
    for value in [0, None, True, "", ("exact",), ["exact"], {"exact": 1}, House(TEXT)]:
        wrong.append((value, (), ()))
    return wrong


class Refusals(unittest.TestCase):

    def assert_raises(self, error, value, act, *args):
        with self.assertRaises(error) as caught:
            act(*args)
        self.assertIs(type(caught.exception), error)
        self.assertIs(caught.exception.value, value)
        self.assertEqual(caught.exception.args, (value,))


class UsedTest(unittest.TestCase):

    def setUp(self):
        self.house = House(TEXT)

    def assert_used(self, tool, load, told, is_meant, rule="exact"):
        self.assertEqual(used(self.house, tool, load), told)
        self.assertIs(meant(self.house, rule, tool, load), is_meant)

    def test_keep(self):
        self.assert_used(("keep", "loose"), ((),), (), True)
        self.assert_used(("keep", "loose"), (("a", "A", "a"),), ("a",), True)
        self.assert_used(("keep", "loose"), (("a", "A", "b", "a"),), ("a", "b", "a"), False)
        self.assert_used(("keep", "exact"), (("a", "A", "b", "b"),), ("a", "A", "b"), True)
        self.assert_used(("keep", "exact"), (("a", "", "a"),), ("a", "", "a"), False)

    def test_a_row_is_held_against_the_one_that_was_kept_last(self):
        self.assert_used(("keep", "value"), (("1", "a", "A", "a", "1"),), ("1", "a", "1"), False)

    def test_merge(self):
        self.assert_used(("merge", "exact"), ((), ()), (), True)
        self.assert_used(("merge", "exact"), (("1", "a"), ("2", "b")), ("1", "2", "a", "b"), True)
        self.assert_used(("merge", "loose"), (("a",), ("A",)), ("a", "A"), False)
        self.assert_used(("merge", "loose"), (("A",), ("a",)), ("A", "a"), True)
        self.assert_used(("merge", "exact"), (("b", "a"), ("2",)), ("2", "b", "a"), False)
        self.assert_used(("merge", "exact"), ((), ("b", "a")), ("b", "a"), False)

    def test_merge_is_listed_by_the_rule_that_is_handed_in(self):
        load = (("12",), ("2",))
        self.assertEqual(used(self.house, ("merge", "exact"), load), ("12", "2"))
        self.assertIs(meant(self.house, "exact", ("merge", "exact"), load), True)
        self.assertIs(meant(self.house, "value", ("merge", "exact"), load), False)
        self.assertEqual(used(self.house, ("merge", "value"), load), ("2", "12"))
        self.assertIs(meant(self.house, "exact", ("merge", "value"), load), False)
        self.assertIs(meant(self.house, "value", ("merge", "value"), load), True)

    def test_both_and_only(self):
        self.assert_used(("both", "loose"), (("a", "A", "b"), ("a",)), ("a", "A"), True)
        self.assert_used(("only", "loose"), (("a", "A", "b"), ("a",)), ("b",), True)
        self.assert_used(("both", "exact"), (("a", "b"), ()), (), True)
        self.assert_used(("only", "exact"), (("a", "b"), ()), ("a", "b"), True)
        self.assert_used(("both", "exact"), ((), ("a", "b")), (), True)
        self.assert_used(("only", "exact"), ((), ("a", "b")), (), True)
        self.assert_used(("both", "exact"), (("b", "a"), ("a",)), (), False)
        self.assert_used(("only", "exact"), (("b", "a"), ("a",)), ("b", "a"), False)
        self.assert_used(("both", "exact"), (("a",), ("b", "a")), (), False)
        self.assert_used(("only", "exact"), (("a",), ("b", "a")), ("a",), False)
        self.assert_used(("both", "exact"), (("1", "a", "b"), ("2", "a", "a", "b")), ("a", "b"), True)
        self.assert_used(("both", "exact"), (("a", "b", "a"), ("a",)), ("a",), False)

    def test_find(self):
        for rows, name, told, is_meant in (
            ((), "a", False, True), (("a",), "a", True, True), (("A",), "a", True, True), (("b",), "a", False, True),
            (("1", "2", "a"), "1", True, True), (("1", "2", "a"), "a", True, True), (("1", "2", "a"), "b", False, True),
            (("a", "1"), "a", False, False), (("1", "b", "a"), "a", False, False), (("2", "b", "1", "a"), "a", True, True),
            (("a", "b", "1", "2"), "b", False, False), (("a", "a", "1"), "a", True, True),
        ):
            self.assert_used(("find", "loose", name), (rows,), told, is_meant)

    def test_cut(self):
        for rows, told, is_meant in (
            ((), (), True), (("1", "2", "a", "b"), ("2", "a"), True), (("b", "2"), (), False), (("2", "1", "a"), ("2", "1", "a"), False),
            (("1", "1"), (), True), (("2", "b", "a"), ("2",), False), (("b",), (), True), (("2", "A", "aa"), ("2", "A"), True),
        ):
            self.assert_used(("cut", "loose", "2", "a"), (rows,), told, is_meant)
        self.assert_used(("cut", "loose", "a", "2"), (("1", "A", "b"),), (), True)

    def test_more_than_forty_rows(self):
        told = used(self.house, ("merge", "loose"), (("a",) * 40, ("A",) * 40))
        self.assertEqual(told, ("a",) * 40 + ("A",) * 40)
        self.assertEqual(len(used(self.house, ("keep", "loose"), (("a", "b") * 20,))), 40)

    def test_results_are_tuples_and_bools(self):
        for tool, load in (
            (("keep", "loose"), (("a",),)), (("merge", "loose"), ((), ())), (("both", "loose"), (("a",), ("a",))),
            (("only", "loose"), (("a",), ())), (("cut", "loose", "", "b"), (("a",),)),
        ):
            self.assertIs(type(used(self.house, tool, load)), tuple)
            self.assertIs(type(meant(self.house, "loose", tool, load)), bool)
        self.assertIs(used(self.house, ("find", "loose", "a"), (("a",),)), True)
        self.assertIs(used(self.house, ("find", "loose", "a"), ((),)), False)

    def test_beside_a_plain_going_along_the_rows(self):
        counts = {}
        for seed in range(250):
            drawn = random.Random(seed)
            text = draw_house(drawn, known=0)
            house, plain, names = House(text), Plain(text), list(all_names(text, 3))
            if not names:
                continue
            for word in FILES:
                for _ in range(6):
                    rows = tuple(drawn.choice(names) for _ in range(drawn.choice([0, 1, 2, 3, 4, 5, 9])))
                    if drawn.random() < 0.5:
                        rows = listed(house, drawn.choice(house.rules), rows)
                    load = drawn.choice(list(splits(rows, FILES[word])))
                    bounds = [drawn.choice(names) for _ in range({"find": 1, "cut": 2}.get(word, 0))]
                    tool = (word, drawn.choice(house.rules), *bounds)
                    rule = drawn.choice(house.rules)
                    self.assertEqual(used(house, tool, load), plain_used(plain.compare, tool, load), (text, tool, load))
                    told = meant(house, rule, tool, load)
                    self.assertIs(told, plain_meant(plain.compare, rule, tool, load), (text, rule, tool, load))
                    counts[word, told] = counts.get((word, told), 0) + 1
        for word in FILES:
            self.assertGreater(min(counts[word, True], counts[word, False]), 20, word)


class KeepsTest(unittest.TestCase):

    def test_each_part(self):
        house = House(TEXT)
        for promise, rows, told in (
            (("exact", (), ()), (), True), (("exact", (), ()), ("1", "A", "a", "a"), True), (("exact", (), ()), ("a", "A"), False),
            (("exact", ("loose",), ()), ("1", "A", "b"), True), (("exact", ("loose",), ()), ("1", "A", "a"), False),
            (("exact", ("loose",), ()), ("A", "Ab", "a"), False), (("exact", ("exact", "value"), ()), ("1", "2"), True),
            (("exact", (), (("value", "2", "12"),)), ("12", "2"), True), (("exact", (), (("value", "2", "12"),)), ("1", "2"), False),
            (("exact", (), (("value", "2", "12"),)), ("12", "2", "a"), False), (("exact", (), (("loose", "b", "a"),)), (), True),
            (("exact", (), (("loose", "b", "a"),)), ("a",), False),
            (("fine", (), (("exact", "A", "a"), ("value", "a", "a"))), ("A", "a"), True),
            (("fine", (), (("exact", "A", "a"), ("value", "a", "a"))), ("A", "Aa"), False),
        ):
            self.assertIs(keeps(house, promise, rows), told, (promise, rows))

    def test_beside_a_plain_telling(self):
        counts = {True: 0, False: 0}
        for seed in range(300):
            drawn = random.Random(seed)
            text = draw_house(drawn, known=0)
            house, plain, names = House(text), Plain(text), list(all_names(text, 3))
            for _ in range(8 if names else 0):
                unlikes = tuple(sorted(drawn.sample(house.rules, drawn.choice([0, 0, 1, 2]))))
                cuts = {(drawn.choice(house.rules), drawn.choice(names), drawn.choice(names)) for _ in range(drawn.choice([0, 0, 1, 4]))}
                rule = drawn.choice(house.rules)
                rows = tuple(drawn.choice(names) for _ in range(drawn.randint(0, 4)))
                rows = listed(house, rule, rows) if drawn.random() < 0.8 else rows
                promise = (rule, unlikes, tuple(sorted(cuts)))
                told = keeps(house, promise, rows)
                self.assertIs(told, plain_keeps(plain.compare, promise, rows), (text, promise, rows))
                counts[told] += 1
        self.assertGreater(min(counts.values()), 100)


class ErrorsTest(Refusals):

    def test_tools(self):
        house = House(TEXT)
        for value in bad_tools():
            self.assert_raises(BadTool, value, used, house, value, 1)
            self.assert_raises(BadTool, value, meant, house, "exact", value, 1)

    def test_tools_that_can_stand(self):
        house = House(TEXT)
        for tool in (("find", "loose", LONG), ("cut", "loose", LONG, LONG), ("cut", "loose", "", ""), ("find", "loose", "")):
            self.assertIsNotNone(used(house, tool, ((),)))
        forms = House(FORMS)
        self.assertIs(used(forms, ("find", "r", "aab"), (("aab",),)), True)
        for value in (("find", "r", ""), ("find", "r", "b"), ("cut", "r", "a", "ba"), ("cut", "r", "abb", "a")):
            self.assert_raises(BadTool, value, used, forms, value, (("a",),))

    def test_loads(self):
        house = House(TEXT)
        for tool, many in ((("keep", "loose"), 1), (("find", "loose", "a"), 1), (("cut", "loose", "a", "b"), 1),
                           (("merge", "loose"), 2), (("both", "loose"), 2), (("only", "loose"), 2)):
            wrong = strange_values(tuple) + [(), (("a",),) * (many - 1), (("a",),) * (many + 1), [("a",)] * many, ("a",) * many]
            wrong.extend([(rows,) + ((),) * (many - 1) for rows in bad_files()])
            wrong.extend([((),) * (many - 1) + (rows,) for rows in bad_files()])
            for value in wrong:
                self.assert_raises(BadLoad, value, used, house, tool, value)
                self.assert_raises(BadLoad, value, meant, house, "exact", tool, value)
            for rows in ((), ("a",) * 40, ("a" * 100,), ("",)):
                self.assertIsNotNone(used(house, tool, (rows,) * many))

    def test_loads_of_names_that_have_no_form(self):
        value = (("ab", "b"),)
        self.assert_raises(BadLoad, value, used, House(FORMS), ("keep", "r"), value)
        self.assertEqual(used(House(FORMS), ("keep", "s"), (("ab", "aa"),)), ("ab",))

    def test_promises(self):
        house = House(TEXT)
        for value in bad_promises():
            self.assert_raises(BadPromise, value, keeps, house, value, 1)
        for promise in (
            ("exact", ("exact", "fine", "loose", "value"), ()), ("exact", (), tuple(("loose", "a" * at, LONG) for at in range(4))),
            ("exact", (), (("exact", "a", "b"), ("exact", "b", "a"))), ("exact", (), (("fine", "", ""), ("loose", "", ""))),
        ):
            self.assertIs(keeps(house, promise, ()), True)

    def test_rows(self):
        house = House(TEXT)
        for value in bad_files():
            self.assert_raises(BadRows, value, keeps, house, ("exact", (), ()), value)
        self.assertIs(keeps(house, ("exact", (), ()), ("a" * 100,) * 40), True)
        self.assert_raises(BadPromise, ("r", (), (("r", "a", "b"),)), keeps, House(FORMS), ("r", (), (("r", "a", "b"),)), ())

    def test_which_one_comes_first(self):
        dim, house = House(DIM), House(TEXT)
        self.assert_raises(NotFull, dim, used, dim, 1, 2)
        self.assert_raises(NotFull, dim, keeps, dim, 1, 2)
        self.assert_raises(NotFull, dim, meant, dim, 1, 2, 3)
        for value in strange_values():
            self.assert_raises(NoRule, value, meant, house, value, 1, 2)
        for tool in (("keep", "loose"), ("merge", "loose")):
            self.assert_raises(NoRule, "nothing", meant, house, "nothing", tool, 1)
        self.assert_raises(BadTool, 1, used, house, 1, 2)
        self.assert_raises(BadTool, 1, meant, house, "exact", 1, 2)
        self.assert_raises(BadLoad, 2, meant, house, "exact", ("keep", "loose"), 2)
        self.assert_raises(BadPromise, 1, keeps, house, 1, 2)
        self.assert_raises(BadRows, 2, keeps, house, ("exact", (), ()), 2)

    def test_errors_keep_any_value(self):
        for error in (BadTool, BadLoad, BadPromise):
            self.assertEqual(error.__bases__, (OrderError,))
            for value in any_values():
                self.assertIs(error(value).value, value)

    def test_arguments_by_name(self):
        house = House(TEXT)
        self.assertEqual(used(load=(("a", "A"),), tool=("keep", "loose"), house=house), ("a",))
        self.assertIs(keeps(rows=("a",), promise=("exact", (), ()), house=house), True)
        self.assertIs(meant(load=(("a",),), tool=("keep", "loose"), rule="exact", house=house), True)
        for act, names in ((used, ["house", "tool", "load"]), (keeps, ["house", "promise", "rows"]),
                           (meant, ["house", "rule", "tool", "load"])):
            self.assertEqual(list(inspect.signature(act).parameters), names)
            self.assertEqual(act.__module__, "trustsorted.tools")


if __name__ == "__main__":
    unittest.main()
