"""Sections 2 and 4: houses, and how a full house orders names."""

import inspect
import unittest

from tests.plain import Plain, all_names, all_worlds
from tests.values import any_values, strange_values
from trustsorted.errors import BadHouse, BadName, BadRows, NoRule, NotFull
from trustsorted.houses import House, is_listed, is_world, listed, order, world

TEXT = "\n".join([
    "signs a b A 1 2 -",
    "names ab+ 12? -*",
    "names A",
    "rule shell",
    "  ranks - 1 2 A a b",
    "rule phone",
    "  figures - 1 2 a=A b",
    "  ranks known a<A 1<=2 b=- 1!=-",
    "  back a A b 1=2=-",
    "rule cloud",
    "  length",
    "  back known",
    "rule plain",
    "  ranks known",
])

FULL = "signs a b A 1 2\nrule shell\n  ranks 1 2 A a b\nrule value\n  figures 1 2 a=A b\nrule size\n  length\n" \
    "  back 1=2=A=a b\nrule fold\n  ranks 1 2 a=A b\n  back A a b=1=2"


def changed(text, number, line):
    """The text with another line in the place of that with this number."""
    lines = text.split("\n")
    lines[number - 1:number] = line
    return "\n".join(lines)


class HouseTest(unittest.TestCase):

    def assert_bad(self, text, number):
        with self.assertRaises(BadHouse, msg=text) as caught:
            House(text)
        self.assertEqual(caught.exception.value, number, text)
        self.assertIs(type(caught.exception.value), int)

    def assert_bad_line(self, number, line):
        self.assert_bad(changed(TEXT, number, [line]), number)

    def test_properties(self):
        house = House(TEXT)
        self.assertEqual(house.text, TEXT)
        self.assertEqual(house.signs, ("a", "b", "A", "1", "2", "-"))
        self.assertEqual(house.rules, ("shell", "phone", "cloud", "plain"))
        self.assertIs(house.is_full, False)
        self.assertIs(House(FULL).is_full, True)
        self.assertIs(House("signs a\nrule r\n  length").is_full, True)
        self.assertIs(House("signs a\nrule r\n  length\n  ranks known").is_full, False)

    def test_passes(self):
        house = House(TEXT)
        self.assertEqual(house.passes("shell"), (
            ("ranks", (("-",), ("1",), ("2",), ("A",), ("a",), ("b",)), None),))
        self.assertEqual(house.passes("phone"), (
            ("figures", (("-",), ("1",), ("2",), ("A", "a"), ("b",)), None),
            ("ranks", None, (("a", "<", "A"), ("1", "<=", "2"), ("b", "=", "-"), ("1", "!=", "-"))),
            ("back", (("a",), ("A",), ("b",), ("-", "1", "2")), None)))
        self.assertEqual(house.passes("cloud"), (("length", None, None), ("back", None, ())))
        self.assertEqual(house.passes(rule="plain"), (("ranks", None, ()),))
        for rule in house.rules:
            for told in house.passes(rule):
                self.assertIs(type(told), tuple)
        for value in strange_values():
            with self.assertRaises(NoRule) as caught:
                house.passes(value)
            self.assertIs(caught.exception.value, value)

    def test_length_and_in(self):
        house = House(TEXT)
        self.assertEqual(len(house), 4)
        for rule in house.rules:
            self.assertIs(rule in house, True)
        for value in strange_values():
            self.assertIs(value in house, False)
        self.assertIs("shel" in house, False)
        self.assertIs("a" in house, False)

    def test_equal(self):
        self.assertTrue(House(TEXT) == House(TEXT))
        self.assertFalse(House(TEXT) != House(TEXT))
        self.assertTrue(House(TEXT) != House(FULL))
        self.assertFalse(House(TEXT) == House(FULL))
        for value in any_values() + [TEXT]:
            self.assertIs(House(TEXT) == value, False)
            self.assertIs(value == House(TEXT), False)
        swapped = "signs a A\nrule r\n  ranks a=A"
        self.assertFalse(House(swapped) == House(swapped.replace("a=A", "A=a")))

    def test_other_operators_raise_type_error(self):
        house = House(TEXT)
        for act in (
            lambda: house < house, lambda: house <= house, lambda: house > 1, lambda: house >= "a",
            lambda: house + house, lambda: house - 1, lambda: house | house, lambda: house & house,
            lambda: ~house, lambda: -house, lambda: house * 2, lambda: house[0], lambda: 1 + house,
            lambda: list(house), lambda: hash(house),
        ):
            self.assertRaises(TypeError, act)

    def test_no_string(self):
        for value in strange_values(str):
            self.assert_bad(value, 0)
        self.assert_bad(House(TEXT), 0)
        self.assert_bad(tuple(TEXT.split("\n")), 0)

    def test_signs_line(self):
        for line in (
            "", "signs", "signs ", " signs a", "signs a ", "signs  a", "signs a  b", "signs a a", "signs ab", "signs =",
            "signs ?", "signs +", "signs *", "signs <", "signs a !", "signs a b c d e f g h i", "Signs a", "sign a",
            "signs a,b", "rule shell", "names a", "  length", "signs #", "signs a :",
        ):
            self.assert_bad_line(1, line)
        for line in ("signs a", "signs a b c d e f g h", "signs - _ . 0 9 Z z A"):
            sign = line[6]
            self.assertEqual(House(line + "\nrule r\n  length").signs, tuple(line.split(" ")[1:]))
            self.assertEqual(House(line + "\nnames " + sign + "\nrule r\n  length").signs[0], sign)

    def test_names_lines(self):
        for line in (
            "names", "names ", "names a ", "names  a", " names a", "names ?", "names +", "names *", "names aa",
            "names aba", "names c", "names a??", "names a?b", "names a*+", "names a b A 1 2 - a", "names =",
            "names ab=", "name a", "names aB", "names a  b", "names a\tb",
        ):
            self.assert_bad_line(2, line)
            self.assert_bad_line(3, line)
        self.assert_bad(changed(TEXT, 3, ["names A", "names b"]), 4)
        self.assertEqual(House(changed(TEXT, 2, [])).rules, House(TEXT).rules)
        self.assertEqual(House(changed(changed(TEXT, 2, []), 2, [])).rules, House(TEXT).rules)
        for line in ("names a b A 1 2 -", "names abA12-? a", "names -+", "names a?"):
            self.assertEqual(House(changed(TEXT, 2, [line])).rules, House(TEXT).rules)

    def test_rule_lines(self):
        for line in (
            "rule", "rule ", "rule shell ", "rule  shell", " rule shell", "rule Shell", "rule shell2", "rule a b",
            "rule abcdefghi", "rules shell", "rule shel-l", "", "signs a", "  length",
        ):
            self.assert_bad_line(4, line)
            self.assert_bad_line(6, line if line != "  length" else "   length")
        self.assert_bad_line(6, "rule shell")
        self.assert_bad_line(13, "rule phone")
        self.assert_bad(TEXT + "\nrule last\n  length", 15)
        self.assertEqual(House(changed(TEXT, 4, ["rule abcdefgh"])).rules[0], "abcdefgh")
        self.assertEqual(House(changed(TEXT, 4, ["rule known"])).rules[0], "known")
        self.assert_bad(changed(TEXT, 4, ["names b", "rule shell"]), 4)

    def test_pass_lines(self):
        for line in (
            "", "ranks - 1 2 A a b", " ranks - 1 2 A a b", "   ranks - 1 2 A a b", "  ranks", "  ranks ",
            "  ranks - 1 2 A a b ", "  ranks  - 1 2 A a b", "  ranks - 1 2 A a", "  ranks - 1 2 A a b b",
            "  ranks - 1 2 A a=b=a", "  ranks - 1 2 A a b c", "  ranks - 1 2 A= a b", "  ranks - 1 2 =A a b",
            "  ranks - 1 2 A==a b", "  ranks - 1 2 Aa b", "  ranks -=1=2=A=a=", "  rank - 1 2 A a b",
            "  Ranks - 1 2 A a b", "  back - 1 2 A a b", "  back known", "  length ", "  length a", "  length known",
            "  known", "  ranks - 1 2 A a b known", "  figures - 1 A 2 a b", "  figures - 1=A 2 a b",
            "  figures 1 - 2 A a b", "  figures 1=2=- A a b", "  figures a A 1=b=2 -", "rule other", "  rule other",
            "  ranks known ", "  ranks  known", "  ranks known a", "  ranks known a<a", "  ranks known a<c",
            "  ranks known c<a", "  ranks known a>b", "  ranks known a=<b", "  ranks known a>=b", "  ranks known a==b",
            "  ranks known a!b", "  ranks known a<b<A", "  ranks known a<", "  ranks known <b", "  ranks known ab",
            "  ranks known a< b", "  ranks known known", "  ranks Known", "  ranks known a<b b<a",
            "  ranks known a<b  b<A", "  ranks known a<=b b<=A A<a", "  ranks known a=b a!=b", "  ranks known a=b b<a",
            "  ranks known a=b b=A A!=a", "  ranks known a<=b b<=a a!=b", "  figures known a=1", "  figures known 1=a",
            "  figures known a<=1 2<=a", "  figures known 1<a a<2", "  figures known a<1 2<b b<=a",
            "  figures known 1<=a a<=2", "  ranks known " + " ".join(["a<b"] * 13),
        ):
            self.assert_bad_line(5, line)
        for line in (
            "  length", "  ranks -=1=2=A=a=b", "  ranks b a A 2 1 -", "  figures - a 1 2 b A", "  figures 1=2 - a b=A",
            "  figures - a b A 2 1", "  ranks known", "  figures known", "  ranks known " + " ".join(["a<b"] * 12),
            "  ranks known a<b a<=b a!=b b!=a", "  ranks known a<=b b<=a", "  figures known a<1 2<b a!=1",
            "  figures known a<=1 a<=2", "  figures known 1=2 1<a 2<=b", "  ranks known a=1", "  ranks 1 - 2 A a b",
            "  ranks known a<=b b<=A A<=a", "  figures known 1<2 a!=A",
        ):
            house = House(changed(TEXT, 5, [line]))
            self.assertEqual(house.passes("shell")[0][0], line[2:].split(" ")[0])

    def test_passes_behind_the_first_one(self):
        self.assert_bad(changed(TEXT, 9, ["  length", "  length"]), 10)
        self.assert_bad(changed(TEXT, 9, ["  back known a<b b<a"]), 9)
        self.assert_bad(changed(TEXT, 9, ["  back 1 2"]), 9)
        self.assert_bad(changed(TEXT, 8, ["  figures a=1 b 2 A -"]), 8)
        house = House(changed(TEXT, 8, ["  length", "  back known 1<2"]).replace("  back a A b 1=2=-\n", ""))
        self.assertEqual([told[0] for told in house.passes("phone")], ["figures", "length", "back"])
        self.assertEqual(House("signs a 1\nrule r\n  length\n  back 1=a").passes("r")[1], ("back", (("1", "a"),), None))

    def test_missing_lines(self):
        lines = TEXT.split("\n")
        for number in range(1, len(lines)):
            text = "\n".join(lines[:number])
            if lines[number - 1][:2] == "  ":
                self.assertEqual(House(text).text, text)
            else:
                self.assert_bad(text, number + 1)
        self.assert_bad("", 1)
        self.assert_bad("\n", 1)
        self.assert_bad(TEXT + "\n", 15)
        self.assert_bad("\n" + TEXT, 1)
        self.assert_bad("signs a", 2)
        self.assert_bad("signs a\n", 2)
        self.assert_bad("signs a\nnames a", 3)
        self.assert_bad("signs a\nnames a\nnames a\nnames a", 4)
        self.assert_bad("signs a\nrule r", 3)
        self.assert_bad("signs a\nrule r\n", 3)
        self.assert_bad("signs a\nrule r\nrule q", 3)

    def test_first_wrong_line_is_told(self):
        lines = TEXT.split("\n")
        for first in range(1, len(lines) + 1):
            for second in range(first, len(lines) + 1):
                text = changed(changed(TEXT, second, ["?"]), first, ["!"])
                self.assert_bad(text, first)

    def test_interface(self):
        self.assertEqual(list(inspect.signature(House).parameters), ["text"])
        self.assertEqual(House(text=TEXT), House(TEXT))
        for name in ("passes", "__len__", "__contains__", "__eq__", "__init__"):
            self.assertIn(name, House.__dict__)
        self.assertEqual(list(inspect.signature(order).parameters), ["house", "rule", "one", "other"])
        self.assertEqual(list(inspect.signature(listed).parameters), ["house", "rule", "rows"])
        self.assertEqual(list(inspect.signature(is_listed).parameters), ["house", "rule", "rows"])
        self.assertEqual(list(inspect.signature(is_world).parameters), ["house", "value"])
        self.assertEqual(list(inspect.signature(world).parameters), ["house"])


class OrderTest(unittest.TestCase):

    def test_ranks(self):
        house = House(FULL)
        for one, other, word in (
            ("", "", "alike"), ("", "1", "before"), ("1", "", "behind"), ("a", "b", "before"), ("ab", "a", "behind"),
            ("12", "2", "before"), ("A", "a", "before"), ("Ab", "aA", "before"), ("b", "bb", "before"),
        ):
            self.assertEqual(order(house, "shell", one, other), word, (one, other))

    def test_figures(self):
        house = House(FULL)
        for one, other, word in (
            ("12", "2", "behind"), ("2", "12", "before"), ("12", "21", "before"), ("a12", "a2b", "behind"),
            ("A1", "a1", "alike"), ("1a", "11", "before"), ("a1", "a1a", "before"), ("1a2", "1a12", "before"),
            ("b1", "a22", "behind"), ("11", "b", "before"), ("a", "a1", "before"), ("11a", "2b", "behind"),
        ):
            self.assertEqual(order(house, "value", one, other), word, (one, other))

    def test_figures_of_one_class_and_behind_others(self):
        house = House("signs 1 2 a b\nrule r\n  figures a 1=2 b")
        for one, other, word in (
            ("12", "21", "alike"), ("12", "b", "before"), ("12", "a", "behind"), ("1a", "11", "before"),
            ("1b", "11", "before"), ("111", "12b", "behind"), ("2a1", "1a2", "alike"), ("1", "2b", "before"),
        ):
            self.assertEqual(order(house, "r", one, other), word, (one, other))

    def test_length_and_back(self):
        house = House(FULL)
        for one, other, word in (
            ("b", "11", "before"), ("bb", "1", "behind"), ("ab", "ba", "behind"), ("ba", "ab", "before"),
            ("12", "aA", "alike"), ("bab", "aab", "behind"), ("", "", "alike"),
        ):
            self.assertEqual(order(house, "size", one, other), word, (one, other))
        for one, other, word in (("aA", "Aa", "before"), ("Aa", "aA", "behind"), ("aAb", "AAb", "behind")):
            self.assertEqual(order(house, "fold", one, other), word, (one, other))

    def test_against_plain_words(self):
        texts = [
            FULL,
            "signs a 1 2\nrule r\n  figures 1 2 a\n  ranks 2 1=a\nrule s\n  figures a 2=1\n  back 1 a 2\nrule t\n"
            "  length\n  figures 2 1 a\n  back a=1=2",
            "signs a b\nnames a+ b?\nrule r\n  ranks a=b\n  back b a",
        ]
        for text in texts:
            house, plain = House(text), Plain(text)
            names = list(all_names(text, 3))
            for rule in house.rules:
                for one in names:
                    for other in names:
                        told = plain.compare(rule, one, other)
                        word = "alike" if told == 0 else "before" if told < 0 else "behind"
                        self.assertEqual(order(house, rule, one, other), word, (text, rule, one, other))

    def test_errors_in_their_sequence(self):
        dim, house = House(TEXT), House(FULL)
        for value in any_values():
            with self.assertRaises(NotFull) as caught:
                order(dim, value, value, value)
            self.assertIs(caught.exception.value, dim)
        for value in strange_values():
            with self.assertRaises(NoRule) as caught:
                order(house, value, 1, 2)
            self.assertIs(caught.exception.value, value)
        for value in [value for value in any_values() if value not in ("", "a")] + ["a" * 101, "ac", "a b", "a\n"]:
            with self.assertRaises(BadName) as caught:
                order(house, "shell", value, 5)
            self.assertIs(caught.exception.value, value)
            with self.assertRaises(BadName) as caught:
                order(house, "shell", "a", value)
            self.assertIs(caught.exception.value, value)
        self.assertEqual(order(house, other="a" * 100, one="a" * 99, rule="shell"), "before")

    def test_names_have_one_of_the_forms(self):
        house = House("signs a b 1 2\nnames ab+ 1? 2*\nnames b 2\nrule r\n  ranks a b 1 2")
        for name in ("a", "b", "ab", "abba1", "a1222", "b22", "b2", "bb2", "a" * 100, "a" * 50 + "2" * 50):
            self.assertEqual(order(house, "r", name, name), "alike")
        for name in ("", "1", "a11", "a21", "2", "1a", "a" * 101):
            with self.assertRaises(BadName) as caught:
                order(house, "r", name, name)
            self.assertEqual(caught.exception.value, name)

    def test_forms_against_plain_patterns(self):
        text = "signs a b 1\nnames a? b1* a+ 1\nnames 1 ab? ab? b\nrule r\n  ranks a b 1"
        house = House(text)
        good = list(all_names(text, 6))
        for name in all_names("signs a b 1\nrule r\n  ranks a b 1", 6):
            if name in good:
                self.assertEqual(order(house, "r", name, name), "alike")
            else:
                self.assertRaises(BadName, order, house, "r", name, good[0])


class ListedTest(unittest.TestCase):

    def test_rows_that_are_alike_stay_in_sequence(self):
        house = House(FULL)
        rows = ("b", "A", "a", "a", "A", "1")
        self.assertEqual(listed(house, "value", rows), ("1", "A", "a", "a", "A", "b"))
        self.assertEqual(listed(house, "value", rows[::-1]), ("1", "A", "a", "a", "A", "b"))
        self.assertEqual(listed(house, "shell", rows), ("1", "A", "A", "a", "a", "b"))
        self.assertEqual(listed(house, "size", ("bb", "b", "", "12", "a1")), ("", "b", "12", "a1", "bb"))
        self.assertEqual(listed(house, "shell", ()), ())
        self.assertEqual(listed(rows=("a",), rule="shell", house=house), ("a",))

    def test_is_listed(self):
        house = House(FULL)
        for rows, told in (
            ((), True), (("a",), True), (("a", "A"), True), (("A", "a", "A"), True), (("2", "12"), True),
            (("12", "2"), False), (("1", "b", "a"), False), (("a", "b", "1"), False),
        ):
            self.assertIs(is_listed(house, "value", rows), told, rows)
            self.assertIs(is_listed(house, "value", listed(house, "value", rows)), True)

    def test_errors_in_their_sequence(self):
        dim, house = House(TEXT), House(FULL)
        for act in (listed, is_listed):
            for value in any_values():
                with self.assertRaises(NotFull) as caught:
                    act(dim, value, value)
                self.assertIs(caught.exception.value, dim)
            for value in strange_values():
                with self.assertRaises(NoRule) as caught:
                    act(house, value, 5)
                self.assertIs(caught.exception.value, value)
            rows = [value for value in any_values() if value not in ((), ("a",))]
            for value in rows + [("a",) * 41, ["a"], ("a", 1), ("a", "c"), ("a" * 101,), ("a", ("a",)), "ab"]:
                with self.assertRaises(BadRows) as caught:
                    act(house, "shell", value)
                self.assertIs(caught.exception.value, value)
            act(house, "shell", ("a" * 100,) * 40)


class WorldTest(unittest.TestCase):

    DIM = "signs a b 1 2\nnames ab+ 12*\nrule r\n  ranks known a<b 1!=2\n  back known\nrule s\n" \
        "  figures known a<=1 2<b\n  ranks a=b 1 2"

    def test_is_world_tells_just_all_worlds(self):
        text = "signs a 1 2\nrule r\n  ranks known 1<=2\n  length\nrule s\n  figures known a!=1\n  back a=1 2"
        house = House(text)
        worlds = all_worlds(text)
        self.assertEqual(len(worlds), 8 * 6)
        for some in worlds:
            self.assertIs(is_world(house, House(some)), True, some)
        free = all_worlds(text.replace(" 1<=2", "").replace("figures", "ranks").replace(" a!=1", ""))
        right = 0
        for some in free:
            other = some.replace("rule s\n  ranks", "rule s\n  figures")
            try:
                right += is_world(house, House(other))
            except BadHouse:
                pass
        self.assertEqual(right, len(worlds))

    def test_each_word_of_facts(self):
        for word, right in (("<", "a b"), ("<=", "a b;a=b"), ("=", "a=b"), ("!=", "a b;b a")):
            house = House("signs a b\nrule r\n  ranks known a" + word + "b")
            for classes in ("a b", "b a", "a=b", "b=a"):
                told = classes.replace("b=a", "a=b") in right.split(";")
                self.assertIs(is_world(house, House("signs a b\nrule r\n  ranks " + classes)), told, (word, classes))

    def test_signs_of_a_class_stand_in_any_sequence(self):
        house = House("signs a b 1\nrule r\n  ranks known a=b\n  ranks a=b 1")
        for some, told in (
            ("ranks a=b 1\n  ranks a=b 1", True), ("ranks b=a 1\n  ranks a=b 1", True),
            ("ranks 1=b=a\n  ranks a=b 1", True), ("ranks a=b 1\n  ranks b=a 1", False),
            ("ranks a=b 1\n  ranks a b 1", False), ("back a=b 1\n  ranks a=b 1", None),
            ("figures a=b 1\n  ranks a=b 1", False), ("ranks known a=b\n  ranks a=b 1", False),
            ("ranks known\n  ranks a=b 1", False), ("length\n  ranks a=b 1", False), ("ranks a b 1\n  ranks a=b 1", False),
            ("ranks a=b 1", False), ("ranks a=b 1\n  ranks a=b 1\n  length", False),
        ):
            text = "signs a b 1\nrule r\n  " + some
            if told is None:
                self.assertRaises(BadHouse, House, text)
            else:
                self.assertIs(is_world(house, House(text)), told, some)

    def test_all_other_lines_are_the_same(self):
        house = House(self.DIM)
        some = world(house).text
        self.assertTrue(is_world(house, House(some)))
        for line, other in (
            ("signs a b 1 2", "signs b a 1 2"), ("names ab+ 12*", "names ba+ 12*"), ("names ab+ 12*\n", ""),
            ("rule r", "rule q"), ("  ranks a=b 1 2", "  ranks b=a 1 2"), ("  ranks a=b 1 2", "  back a=b 1 2"),
        ):
            self.assertIn(line, some)
            self.assertIs(is_world(house, House(some.replace(line, other))), False, other)

    def test_any_value(self):
        house, full = House(self.DIM), House(FULL)
        for value in any_values() + [self.DIM, world(house).text, full, house, (world(house),)]:
            self.assertIs(is_world(house, value), False)
        self.assertIs(is_world(full, full), True)
        self.assertIs(is_world(full, House(FULL)), True)
        self.assertIs(is_world(value=world(house), house=house), True)

    def test_world(self):
        for text in (
            self.DIM, TEXT, FULL, "signs a\nrule r\n  ranks known", "signs 1 2 3 a b\nrule r\n  figures known a<1 2<b",
        ):
            house = House(text)
            some = world(house)
            self.assertIs(type(some), House)
            self.assertTrue(some.is_full)
            self.assertTrue(is_world(house, some))
        self.assertEqual(world(House(FULL)), House(FULL))

    def test_worlds_of_all_lines_of_facts(self):
        signs = ["a", "1", "2", "b"]
        facts = [one + word + other for one in signs for other in signs if one != other for word in ("<", "<=", "=", "!=")]
        for word in ("ranks", "figures"):
            for first in facts:
                for second in facts[::5]:
                    text = "signs a 1 2 b\nrule r\n  " + word + " known " + first + " " + second
                    worlds = all_worlds(text)
                    if worlds:
                        self.assertIn(world(House(text)).text, [_plain_text(some) for some in worlds], text)
                    else:
                        self.assertRaises(BadHouse, House, text)


def _plain_text(text):
    """The text with the signs of each class in ascending sequence."""
    lines = []
    for line in text.split("\n"):
        words = line.split(" ")
        lines.append(" ".join("=".join(sorted(word.split("="))) for word in words))
    return "\n".join(lines)


if __name__ == "__main__":
    unittest.main()
