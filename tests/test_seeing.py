"""Section 5: what is possible."""

import inspect
import unittest

from tests.plain import all_worlds
from tests.values import any_values, strange_values
from trustsorted.errors import BadName, BadSeen, NoPass, NoRule, Unfit
from trustsorted.houses import House, is_listed, is_world, order, world
from trustsorted.seeing import fitting, possible, ranked, shows_fitting, shows_possible

TEXT = "signs a b 1 2\nrule dim\n  ranks known a<b\n  length\n  back known\nrule clear\n  figures 1 2 a b\n" \
    "rule odd\n  figures known 1!=2"


def words(house, seen, rule, one, other):
    return [word for word, some in possible(house, seen, rule, one, other)]


def bad_seen():
    """Values that are no tuple of listings of the house."""
    good = ("dim", ("a", "b"))
    return strange_values(tuple) + [
        good, (1,), (good, 1), ((),), (("dim",),), (("dim", ("a", "b"), 1),), (("nothing", ("a", "b")),),
        ((1, ("a", "b")),), ((None, ("a", "b")),), ((["dim"], ("a", "b")),), (("dim", ()),), (("dim", ("a",)),),
        (("dim", ["a", "b"]),), (["dim", ("a", "b")],), [good], (("dim", "ab"),), (("dim", ("a", 1)),),
        (("dim", ("a", "c")),), (("dim", ("a", True)),), (("dim", ("a", ("b",))),), (("dim", ("a", "b" * 101)),),
        (("dim", ("a",) * 41),), (good,) * 9, (("dim", {"a": 1}),), ({"dim": ("a", "b")},),
    ]


class PossibleTest(unittest.TestCase):

    def test_words(self):
        house = House(TEXT)
        for rule, one, other, told in (
            ("dim", "a", "b", ["before"]), ("dim", "b", "a", ["behind"]), ("dim", "a", "a", ["alike"]),
            ("dim", "a", "1", ["alike", "before", "behind"]), ("dim", "1", "1a", ["before"]),
            ("dim", "11", "12", ["alike", "before", "behind"]), ("dim", "a1", "b", ["before"]),
            ("dim", "12", "1", ["behind"]), ("dim", "1a", "2", ["before", "behind"]), ("dim", "", "", ["alike"]),
            ("dim", "", "a", ["before"]), ("clear", "2", "12", ["before"]), ("clear", "ab", "b", ["before"]),
            ("odd", "1", "2", ["before", "behind"]), ("odd", "1", "a", ["before", "behind"]),
            ("odd", "11", "2", ["behind"]), ("odd", "1a", "2a", ["before", "behind"]),
            ("odd", "a", "b", ["alike", "before", "behind"]), ("odd", "ab", "ba", ["alike", "before", "behind"]),
        ):
            self.assertEqual(words(house, (), rule, one, other), told, (rule, one, other))

    def test_worlds_tell_the_words(self):
        house = House(TEXT)
        seen = (("dim", ("1", "a")), ("odd", ("1", "2b", "a")))
        told = possible(house, seen, "dim", "1b", "b1")
        self.assertIs(type(told), tuple)
        self.assertEqual(told, possible(rule="dim", seen=seen, one="1b", house=house, other="b1"))
        for word, some in told:
            self.assertTrue(is_world(house, some))
            self.assertEqual(order(some, "dim", "1b", "b1"), word)
            for rule, rows in seen:
                self.assertTrue(is_listed(some, rule, rows))
        self.assertTrue(shows_possible(house, seen, "dim", "1b", "b1", told))

    def test_listings_bind_all_figures(self):
        house = House("signs 1 2 3 a b\nrule r\n  figures known")
        self.assertEqual(words(house, (("r", ("1", "a")),), "r", "3", "a"), ["before"])
        self.assertEqual(words(house, (("r", ("1", "a")),), "r", "23", "a"), ["before"])
        self.assertEqual(words(house, (("r", ("b", "12")), ("r", ("3", "a"))), "r", "b", "a"), ["before"])
        self.assertEqual(words(house, (("r", ("1", "2")),), "r", "1", "2"), ["alike", "before"])
        self.assertRaises(Unfit, words, house, (("r", ("11", "2")),), "r", "1", "2")

    def test_a_chain_of_choices(self):
        house = House("signs a b c d\nrule r\n  ranks known")
        seen = (("r", ("ab", "ba")), ("r", ("bc", "cb")), ("r", ("da", "cb")))
        self.assertEqual(words(house, seen, "r", "a", "b"), ["alike", "before"])
        self.assertEqual(words(house, seen, "r", "a", "c"), ["alike", "before"])
        self.assertEqual(words(house, seen, "r", "d", "c"), ["alike", "before"])
        self.assertEqual(words(house, seen + (("r", ("ba", "ab")),), "r", "a", "b"), ["alike"])

    def test_a_later_pass_is_bound_only_where_the_first_one_calls_alike(self):
        house = House("signs a b\nrule r\n  ranks known\n  back known")
        seen = (("r", ("ab", "ba")),)
        self.assertEqual(words(house, seen, "r", "a", "b"), ["alike", "before", "behind"])
        both = seen + (("r", ("b", "a")),)
        self.assertEqual(words(house, both, "r", "a", "b"), ["alike", "behind"])
        self.assertEqual([word for word, some in possible(house, both, "r", "aa", "ab")], ["alike", "behind"])

    def test_long_names(self):
        house = House("signs a b\nrule r\n  ranks known\n  back known")
        one, other = "a" * 99 + "b", "a" * 100
        self.assertEqual(words(house, (), "r", one, other), ["alike", "before", "behind"])
        seen = (("r", (one, other)),)
        self.assertEqual(words(house, seen, "r", "b", "a"), ["alike", "before"])

    def test_errors_in_their_sequence(self):
        house = House(TEXT)
        unfit = (("dim", ("b", "a")),)
        for value in bad_seen():
            with self.assertRaises(BadSeen, msg=repr(value)) as caught:
                possible(house, value, 1, 2, 3)
            self.assertIs(caught.exception.value, value)
        with self.assertRaises(Unfit) as caught:
            possible(house, unfit, 1, 2, 3)
        self.assertIs(caught.exception.value, unfit)
        for value in strange_values():
            with self.assertRaises(NoRule) as caught:
                possible(house, (), value, 2, 3)
            self.assertIs(caught.exception.value, value)
        for value in [value for value in any_values() if value not in ("", "a")] + ["a" * 101, "c"]:
            with self.assertRaises(BadName) as caught:
                possible(house, (), "dim", value, 3)
            self.assertIs(caught.exception.value, value)
            with self.assertRaises(BadName) as caught:
                possible(house, (), "dim", "a", value)
            self.assertIs(caught.exception.value, value)

    def test_the_bounds_of_what_was_seen(self):
        house = House(TEXT)
        seen = (("dim", ("a",) * 40), ("clear", ("1" * 100, "2" * 100))) * 4
        self.assertEqual(words(house, seen, "dim", "a", "b"), ["before"])
        self.assertRaises(BadSeen, possible, house, seen + seen[:1], "dim", "a", "b")


class FittingTest(unittest.TestCase):

    def test_fits(self):
        house = House(TEXT)
        for seen in ((), (("dim", ("a", "b")),), (("odd", ("2", "1", "a")),), (("clear", ("12", "a", "b")),)):
            told = fitting(house, seen)
            self.assertEqual(told[0], "fits")
            self.assertTrue(is_world(house, told[1]))
            self.assertTrue(all(is_listed(told[1], rule, rows) for rule, rows in seen))
        full = House("signs a b\nrule r\n  ranks a b")
        self.assertEqual(fitting(full, ()), ("fits", full))
        self.assertEqual(fitting(full, (("r", ("b", "a")),)), ("none", (0,)))

    def test_none(self):
        house = House("signs a b c\nrule r\n  ranks known\nrule s\n  ranks known a<b")
        circle = (("r", ("a", "b")), ("r", ("b", "c")), ("r", ("c", "aa")), ("r", ("cb", "ab")), ("r", ("ba", "b")))
        self.assertEqual(fitting(house, circle[:4])[0], "fits")
        told = fitting(house, circle)
        self.assertEqual(told, ("none", (4,)))
        strict = (("r", ("a", "b")), ("r", ("b", "c")), ("r", ("cb", "ab")), ("r", ("cc", "a")))
        self.assertEqual(fitting(house, strict), ("none", (0, 1, 3)))
        twice = (("s", ("b", "a")), ("r", ("a", "b")), ("s", ("b", "a")))
        self.assertIn(fitting(house, twice), (("none", (0,)), ("none", (2,))))

    def test_errors(self):
        house = House(TEXT)
        for value in bad_seen():
            with self.assertRaises(BadSeen) as caught:
                fitting(house, value)
            self.assertIs(caught.exception.value, value)
            with self.assertRaises(BadSeen) as caught:
                shows_fitting(house, value, 1)
            self.assertIs(caught.exception.value, value)

    def test_more_seen_leaves_nothing_sure_open(self):
        house = House("signs a b c\nrule r\n  ranks known\n  back known")
        seen = (("r", ("ab", "ba", "c")), ("r", ("bc", "cb")), ("r", ("bca", "ca", "cb")), ("r", ("b", "bb")))
        names = ("a", "b", "c", "ab", "ba", "cb", "acb")
        for many in range(len(seen)):
            for one in names:
                for other in names:
                    fewer = words(house, seen[:many], "r", one, other)
                    for word in words(house, seen[:many + 1], "r", one, other):
                        self.assertIn(word, fewer)
            for number in (0, 1):
                pairs = ranked(house, seen[:many + 1], "r", number)
                for pair in ranked(house, seen[:many], "r", number):
                    self.assertIn(pair, pairs)


class RankedTest(unittest.TestCase):

    def test_pairs(self):
        house = House("signs b a 1 2\nrule r\n  ranks known b<a\n  figures known a<1\n  back b=a 2 1\nrule s\n  length")
        self.assertEqual(ranked(house, (), "r", 0), (("b", "a"),))
        self.assertEqual(ranked(house, (), "r", 1), (("a", "1"), ("a", "2")))
        self.assertEqual(ranked(house, (), "r", 2), (("2", "1"), ("a", "1"), ("a", "2"), ("b", "1"), ("b", "2")))
        seen = (("r", ("a1", "a", "2")),)
        self.assertRaises(Unfit, ranked, house, seen, "r", 0)
        seen = (("r", ("a1", "2")),)
        self.assertEqual(ranked(house, seen, number=0, rule="r"), (("a", "2"), ("b", "2"), ("b", "a")))

    def test_errors_in_their_sequence(self):
        house = House(TEXT)
        for value in bad_seen():
            self.assertRaises(BadSeen, ranked, house, value, 1, None)
        unfit = (("odd", ("1a", "2", "1", "a", "2b")),)
        with self.assertRaises(Unfit) as caught:
            ranked(house, unfit, 1, None)
        self.assertIs(caught.exception.value, unfit)
        for value in strange_values():
            with self.assertRaises(NoRule) as caught:
                ranked(house, (), value, None)
            self.assertIs(caught.exception.value, value)
        for value in [value for value in any_values() if type(value) is not int or value != 0] + [3, 4, "0", (0,)]:
            with self.assertRaises(NoPass) as caught:
                ranked(house, (), "dim", value)
            self.assertIs(caught.exception.value, value)
        self.assertEqual(ranked(house, (), "dim", 0), (("a", "b"),))
        self.assertEqual(ranked(house, (), "dim", 2), ())
        self.assertRaises(NoPass, ranked, house, (), "clear", 1)
        self.assertRaises(NoPass, ranked, house, (), "dim", False)


class ShowsTest(unittest.TestCase):

    HOUSE = "signs a b 1\nrule r\n  ranks known a<1\nrule s\n  ranks known"

    def test_possible(self):
        house = House(self.HOUSE)
        seen = (("r", ("b1", "1b")),)
        args = (house, seen, "r", "b", "1")
        told = possible(*args)
        self.assertEqual([word for word, some in told], ["alike", "before"])
        fits = [House(text) for text in all_worlds(self.HOUSE) if is_listed(House(text), "r", ("b1", "1b"))]
        others = [House(text) for text in all_worlds(self.HOUSE) if not is_listed(House(text), "r", ("b1", "1b"))]
        for some in fits:
            for more in fits:
                right = order(some, "r", "b", "1") == "alike" and order(more, "r", "b", "1") == "before"
                self.assertIs(shows_possible(*args, (("alike", some), ("before", more))), right)
        for some in others:
            self.assertIs(shows_possible(*args, (told[0], ("before", some))), False)
        for value in any_values() + [
            list(told), told[:1], told[1:], told[::-1], told + told[1:], (list(told[0]), told[1]),
            (told[0] + (1,), told[1]), (told[0], told[1] + (1,)), (told[0], ("before", told[1][1].text)),
            (told[0], ("behind", told[1][1])), (told[0], (b"before", told[1][1])), (told[0], ("before", house)),
            (told[0], ("before",)), (told[0], "be"), dict(told), (told[0], told[1], ("behind", told[1][1])),
            (told[0], ("before", House("signs a b 1\nrule r\n  ranks a b 1"))), (told,), told + (1,),
        ]:
            self.assertIs(shows_possible(*args, value), False, value)
        self.assertIs(shows_possible(house, seen, "r", value=told, one="b", other="1"), True)

    def test_possible_asks_for_worlds_that_fit(self):
        house = House(self.HOUSE)
        seen = (("r", ("b", "1")), ("s", ("a", "b")))
        told = possible(house, seen, "r", "a", "b")
        for text in all_worlds(self.HOUSE):
            some = House(text)
            good = is_listed(some, "r", ("b", "1")) and is_listed(some, "s", ("a", "b"))
            good = good and order(some, "r", "a", "b") == "before"
            self.assertIs(shows_possible(house, seen, "r", "a", "b", (told[0], ("before", some), told[2])), good)

    def test_possible_raises_what_possible_raises(self):
        house = House(self.HOUSE)
        self.assertRaises(BadSeen, shows_possible, house, 1, 1, 1, 1, 1)
        self.assertRaises(Unfit, shows_possible, house, (("r", ("1", "a")),), 1, 1, 1, 1)
        self.assertRaises(NoRule, shows_possible, house, (), 1, 1, 1, 1)
        self.assertRaises(BadName, shows_possible, house, (), "r", 1, "a", 1)
        self.assertRaises(BadName, shows_possible, house, (), "r", "a", 1, 1)

    def test_fits(self):
        house = House(self.HOUSE)
        seen = (("r", ("b", "a")),)
        for text in all_worlds(self.HOUSE):
            right = is_listed(House(text), "r", ("b", "a"))
            self.assertIs(shows_fitting(house, seen, ("fits", House(text))), right)
        some = fitting(house, seen)[1]
        for value in any_values() + [
            ["fits", some], ("fits",), ("fits", some, 1), ("none", some), ("none", (0,)), ("fits", some.text), some,
            ("fits", house), ("fits", (some,)), ("Fits", some), (some, "fits"), ("none", ()), (True, some),
        ]:
            self.assertIs(shows_fitting(house, seen, value), False, value)

    def test_none(self):
        house = House(self.HOUSE)
        seen = (("r", ("1", "a")), ("s", ("a", "b")), ("r", ("b", "a")), ("s", ("bb", "a")), ("r", ("1", "b")),
                ("s", ("b", "1")))
        right = [("none", (0,)), ("none", (1, 3)), ("none", (2, 4))]
        self.assertIn(fitting(house, seen), right)
        for value in right:
            self.assertIs(shows_fitting(house, seen, value), True)
        for value in any_values() + [
            ("none", ()), ("none", (0, 1)), ("none", (3, 1)), ("none", (1, 1, 3)), ("none", (1, 2, 3)), ("none", [0]),
            ("none", (False,)), ("none", (True, 3)), ("none", (-6,)), ("none", (6,)), ("none", (1,)), ("none", 0),
            ["none", (0,)], ("none", (0,), 1), ("none", ((0,),)), ("fits", (0,)), ("none", (0, 6)), ("none", ("0",)),
            ("none", (10 ** 30,)), ("none", (None,)), ("fits", world(house)),
        ]:
            self.assertIs(shows_fitting(house, seen, value), False, value)

    def test_interface(self):
        for act, names in (
            (possible, "house seen rule one other"), (fitting, "house seen"), (ranked, "house seen rule number"),
            (shows_possible, "house seen rule one other value"), (shows_fitting, "house seen value"),
        ):
            self.assertEqual(list(inspect.signature(act).parameters), names.split(" "))
            self.assertEqual(act.__module__, "trustsorted.seeing")


if __name__ == "__main__":
    unittest.main()
