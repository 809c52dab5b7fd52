"""Section 8: names that get lost."""

import inspect
import itertools
import random
import unittest

from tests.draws import draw_house
from tests.loads import plain_used
from tests.plain import Plain, all_names
from tests.test_sets import words
from tests.test_tools import TEXT, Refusals
from tests.values import strange_values
from trustsorted.errors import NoRule, NotFull, TooMany
from trustsorted.houses import House, listed
from trustsorted.losing import lost
from trustsorted.sets import Names
from trustsorted.tools import used
from trustsorted.trust import trust
from trustsorted.trusting import carries


def is_lost_in(plain, rows, name):
    """Whether find does not find a name in some rows, though one that is alike is there."""
    if plain_used(plain.compare, ("find", "two", name), (rows,)):
        return False
    return any(plain.compare("two", name, row) == 0 for row in rows)


def lost_by_files(plain, names, rows, most):
    """The names that get lost in listed files of at most so many of these rows, each file halved as find does."""
    found = set()
    for many in range(1, most + 1):
        for told in itertools.product(rows, repeat=many):
            if plain.is_listed("one", told):
                found.update(name for name in names if name not in found and is_lost_in(plain, told, name))
    return found


def lost_by_pairs(plain, names, rows):
    """The same for files of any number of these rows, by the two rows that are enough for it."""
    found = set()
    for name in names:
        twins = [row for row in rows if plain.compare("two", name, row) == 0]
        if any(
            plain.compare("two", row, name) < 0 and plain.compare("one", twin, row) <= 0
            or plain.compare("two", row, name) > 0 and plain.compare("one", row, twin) <= 0 for twin in twins for row in rows
        ):
            found.add(name)
    return found


def rules(head, one, two):
    return head + "\nrule one\n  " + "\n  ".join(one.split("; ")) + "\nrule two\n  " + "\n  ".join(two.split("; "))


class LostTest(unittest.TestCase):

    def assert_lost(self, text, right, most=3):
        """Whether just these ones of the short names get lost."""
        gone = lost(House(text), "one", "two")
        signs = Plain(text).signs
        self.assertEqual(gone.signs, tuple(signs))
        self.assertEqual({word for word in words(signs, most) if word in gone}, set(right), text)

    def test_what_is_told_of_the_example(self):
        house = House(TEXT)
        gone = lost(house, "exact", "value")
        for rows, name in ((("12", "12", "2"), "2"), (("Ab", "Ab", "a"), "a")):
            self.assertEqual(listed(house, "exact", rows), rows)
            self.assertIs(used(house, ("find", "value", name), (rows,)), False)
            self.assertIn(name, gone)
        self.assertEqual(gone.signs, house.signs)
        self.assertIs(type(gone), Names)

    def test_single_houses(self):
        two = ["a", "b"]
        names = words(two, 3)
        self.assert_lost(rules("signs a b", "ranks a b", "ranks a b"), [])
        self.assert_lost(rules("signs a b", "ranks a b", "ranks b a"), names[1:])
        self.assert_lost(rules("signs a b", "ranks a=b", "ranks a b"), names[1:])
        self.assert_lost(rules("signs a b", "ranks a b", "length"), names[1:])
        self.assert_lost(rules("signs a b", "length", "ranks a b"), names[1:])
        self.assert_lost(rules("signs a b", "ranks a b", "ranks a=b"), names[1:])
        self.assert_lost(rules("signs a b", "ranks a=b; back a b", "ranks a=b"), [])
        self.assert_lost(rules("signs a b", "ranks a=b; back a b", "length"), [])
        self.assert_lost(rules("signs a b", "ranks a=b; back a b", "ranks a=b; ranks a b"), [name for name in names if "a" in name and "b" in name])
        self.assert_lost(rules("signs a b\nnames a b*", "ranks a b", "ranks b a"), [])
        self.assert_lost(rules("signs a b\nnames a b*\nnames b", "ranks a b", "ranks b a"), ["a", "ab", "abb", "b"])
        self.assert_lost(rules("signs a\nnames a", "ranks a", "length"), [])
        self.assert_lost(rules("signs 1 2", "figures 1 2", "ranks 1 2"), [name for name in words(["1", "2"], 3)[2:]])

    def test_guides_may_be_longer_than_the_names(self):
        text = rules("signs a b 1\nnames a\nnames b 1 1 1 1 1", "ranks a b 1", "ranks b a 1")
        self.assert_lost(text, ["a"])
        self.assertIn("b11111", lost(House(text), "one", "two"))
        self.assertEqual(sum(lost(House(text), "one", "two").many(size) for size in range(9)), 2)

    def test_names_of_any_length(self):
        gone = lost(House(rules("signs a b", "ranks a b", "ranks b a")), "one", "two")
        self.assertIn("ab" * 500, gone)
        self.assertIs(gone.is_endless, True)
        self.assertEqual(gone, ~Names.of(("a", "b"), ("",)))

    def test_beside_small_files(self):
        counts = {True: 0, False: 0}
        for seed in range(60):
            text = draw_house(random.Random(seed), most_signs=2, known=0, forms=0.4)
            plain, gone = Plain(text), lost(House(text), "one", "two")
            rows = list(all_names(text, 2))[:6]
            found = lost_by_files(plain, rows, rows, 3)
            self.assertEqual(found, lost_by_files(plain, rows, rows, 4 if len(rows) < 5 else 3))
            self.assertEqual(found, lost_by_pairs(plain, rows, rows), text)
            self.assertLessEqual(found, {name for name in rows if name in gone}, text)
            counts[bool(found)] += 1
        self.assertGreater(min(counts.values()), 15)

    def test_beside_all_pairs_of_rows(self):
        counts = {True: 0, False: 0}
        for seed in range(1000, 1160):
            text = draw_house(random.Random(seed), most_signs=3, known=0, forms=0.5)
            plain, gone = Plain(text), lost(House(text), "one", "two")
            most = {1: 7, 2: 5, 3: 4}[len(plain.signs)] + ("names" in text)
            rows = list(all_names(text, most))
            names = [row for row in rows if len(row) <= most - 2]
            found = lost_by_pairs(plain, names, rows)
            self.assertEqual({word for word in words(plain.signs, min(most - 2, 4)) if word in gone}, {
                name for name in found if len(name) <= 4}, text)
            counts[bool(found)] += 1
        self.assertGreater(min(counts.values()), 40)

    def test_beside_trust(self):
        for seed in range(2000, 2060):
            text = draw_house(random.Random(seed), most_signs=3, known=0, forms=0.4)
            house, gone = House(text), lost(House(text), "one", "two")
            for name in list(all_names(text, 3))[:12]:
                told = trust(house, (), (("one", (), ()),), ("find", "two", name))
                self.assertIs(name in gone, told != ("right",), (text, name))

    def test_no_name_is_lost_just_if_the_rule_is_carried(self):
        counts = {True: 0, False: 0}
        for seed in range(3000, 3150):
            house = House(draw_house(random.Random(seed), most_signs=5, known=0, forms=0.5, most_items=6))
            is_carried = carries(house, (), "one", "two") == ("carries",)
            self.assertIs(lost(house, "one", "two").shortest is None, is_carried, house.text)
            counts[is_carried] += 1
        self.assertGreater(min(counts.values()), 40)

    def test_lost_names_are_names(self):
        for seed in range(4000, 4060):
            text = draw_house(random.Random(seed), most_signs=4, known=0, forms=1, most_items=6)
            forms = tuple(line[6:] for line in text.split("\n") if line.startswith("names "))
            house = House(text)
            self.assertIs(lost(house, "one", "two").is_within(Names.of(house.signs, forms)), True)

    def test_many_signs_and_forms(self):
        for head, one, two in (
            ("signs a A - B b _\nnames aA-Bb_* _ bBa-+ aB+ _ABab- b-a_A\nnames B-_a Aab_* b-Aa A _-b+ B?",
             "length; ranks - A=b=a _=B", "figures a=-=B=A=_=b; back a=b -=A B _"),
            ("signs - B b A 1 a 2 _\nnames -BbA1a2_* _Aa+ Bb2 2A-a1* Bb2-A+ a-A12+\nnames -2 b-* 2A-_b1B? b+ Aa? b-+",
             "ranks 2=1=a=-=A=b=B=_; back -=1 b=2=A=_ a=B", "length; ranks - b=A _ 1=a 2 B; back 2=_=A=a 1=b=B=-"),
        ):
            house = House(rules(head, one, two))
            gone = lost(house, "one", "two")
            self.assertIs(gone.is_endless, True)
            told = trust(house, (), (("one", (), ()),), ("find", "two", gone.shortest))
            self.assertEqual(told[0], "deceived")


class BoundsTest(Refusals):

    def test_too_many_states(self):
        head = "signs a b c d e f g h\nnames abcdefgh* acfh bdefh abcefgh abcefgh acdefgh\n" \
            "names abcdefgh* ch abcdefgh acdefgh abcdefgh abcefgh"
        house = House(rules(head, "ranks a b c d e f g h", "ranks h g f e d c b a"))
        for one, two in (("one", "two"), ("two", "one")):
            with self.assertRaises(TooMany) as caught:
                lost(house, one, two)
            self.assertEqual(caught.exception.value, 300)
        self.assertEqual(lost(house, "one", "one"), Names.of(house.signs, ()))

    def test_not_too_many(self):
        head = "signs a b c d e f\nnames abcdef* ac abcdef abcde abde acef\nnames abcdef* cd abdef abcdef abcef acdf"
        gone = lost(House(rules(head, "ranks a b c d e f", "ranks f e d c b a")), "one", "two")
        self.assertEqual(gone, Names.of(gone.signs, tuple(line[6:] for line in head.split("\n")[1:])))
        self.assertEqual(len(gone.table), 268)

    def test_errors(self):
        dim, house = House("signs a b\nrule r\n  ranks known\nrule s\n  length"), House(TEXT)
        self.assert_raises(NotFull, dim, lost, dim, 1, 2)
        self.assert_raises(NotFull, dim, lost, dim, "s", "s")
        for value in strange_values() + ["nothing", "Exact"]:
            self.assert_raises(NoRule, value, lost, house, value, 2)
            self.assert_raises(NoRule, value, lost, house, "exact", value)
        self.assertEqual(list(inspect.signature(lost).parameters), ["house", "rule", "other"])
        self.assertEqual(lost(other="value", rule="exact", house=house), lost(house, "exact", "value"))
        self.assertEqual(lost.__module__, "trustsorted.losing")


if __name__ == "__main__":
    unittest.main()
