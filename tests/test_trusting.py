"""Section 6: rules beside one another."""

import inspect
import random
import unittest

from tests.draws import draw_house
from tests.measure import RELATIONS, WORDS, is_broken
from tests.plain import Plain, all_names, all_worlds
from tests.test_seeing import bad_seen
from tests.values import any_values, strange_values
from trustsorted import trusting
from trustsorted.errors import BadSeen, NoRule, Unfit
from trustsorted.houses import House, is_listed
from trustsorted.trusting import agreed, carries, same, shows_carries, shows_together, together

FOLDED = "signs a A b 1 2\nrule exact\n  ranks 1 2 A a b\nrule loose\n  ranks 1 2 a=A b\nrule fine\n  ranks 1 2 a=A b\n" \
    "  ranks A a b=1=2\nrule value\n  figures 1 2 a=A b"


def told_length(told):
    return max([len(name) for name in told[2:]], default=None)


def length_of(relation, text, seen=(), one="one", other="two"):
    """The length of the longest told name, None if the relation holds."""
    house = House(text)
    told = getattr(trusting, relation)(house, seen, one, other)
    shows = getattr(trusting, "shows_" + relation)
    assert shows(house, seen, one, other, told) is True
    if told == (relation,):
        return None
    assert told[0] == WORDS[relation]
    plain = Plain(told[1].text)
    assert is_broken(relation, lambda x, y: plain.compare(one, x, y), lambda x, y: plain.compare(other, x, y), told[2:])
    return told_length(told)


def rules(head, one, two):
    return head + "\nrule one\n  " + "\n  ".join(one.split("; ")) + "\nrule two\n  " + "\n  ".join(two.split("; "))


class RelationsTest(unittest.TestCase):

    def assert_lengths(self, text, **lengths):
        for relation, length in lengths.items():
            self.assertEqual(length_of(relation, text), length, (relation, text))

    def test_folded(self):
        self.assertEqual(length_of("carries", FOLDED, (), "exact", "loose"), 2)
        self.assertEqual(length_of("carries", FOLDED, (), "loose", "exact"), 1)
        self.assertEqual(length_of("carries", FOLDED, (), "fine", "exact"), 2)
        self.assertEqual(length_of("carries", FOLDED, (), "exact", "value"), 2)
        self.assertEqual(length_of("together", FOLDED, (), "loose", "exact"), 1)
        self.assertEqual(length_of("together", FOLDED, (), "exact", "loose"), 2)
        self.assertEqual(length_of("agreed", FOLDED, (), "exact", "loose"), 2)
        self.assertEqual(length_of("same", FOLDED, (), "fine", "loose"), 1)
        self.assertEqual(length_of("same", FOLDED, (), "exact", "fine"), 2)
        house = House(FOLDED)
        self.assertEqual(carries(house, (), "fine", "loose"), ("carries",))
        self.assertEqual(together(house, (), "value", "loose"), ("together",))
        self.assertEqual(agreed(house, (), "fine", "loose"), ("agreed",))
        self.assertEqual(same(house, (), "exact", "exact"), ("same",))

    def test_a_rule_stands_on_both_sides(self):
        house = House("signs a b\nrule one\n  ranks known\n  back known\nrule two\n  ranks known")
        for rule in ("one", "two"):
            for relation in RELATIONS:
                self.assertEqual(getattr(trusting, relation)(house, (), rule, rule), (relation,))
        for relation in RELATIONS:
            self.assertNotEqual(getattr(trusting, relation)(house, (), "one", "two"), (relation,))

    def test_last_passes(self):
        head = "signs a b"
        self.assert_lengths(rules(head, "ranks a b", "ranks a=b; back a b"), carries=2, agreed=2, together=None, same=2)
        self.assert_lengths(rules(head, "ranks a=b; back a b", "ranks a=b; back b a"), carries=1, agreed=1, same=1)
        self.assert_lengths(rules(head, "ranks a=b; back a b", "length"), carries=None, agreed=None, together=None, same=1)
        self.assert_lengths(rules(head, "ranks a b; length", "ranks a b"), carries=None, agreed=None, together=None, same=None)
        self.assert_lengths(rules(head, "ranks a b; back b a", "ranks a b; ranks b a"), same=None)
        self.assert_lengths(rules(head, "length; ranks a b", "ranks a b"), carries=2, agreed=2, together=None, same=2)
        self.assert_lengths(rules(head, "length; ranks a b", "ranks a=b; ranks a b"), same=None)
        self.assert_lengths(rules(head, "ranks a b", "length"), carries=2, agreed=2, together=2, same=1)
        self.assert_lengths(rules(head, "length; back a b", "length; ranks a b"), carries=2, agreed=2, together=None, same=2)

    def test_figures(self):
        head = "signs a 1 2"
        self.assert_lengths(rules(head, "figures 1 2 a", "ranks 1 2 a"), carries=2, agreed=2, together=None, same=2)
        self.assert_lengths(rules(head, "figures 1=2 a", "figures 1 2 a"), carries=1, agreed=2, together=1, same=1)
        self.assert_lengths(rules(head, "figures 1=2 a; ranks 1 2 a", "figures 1 2 a"), carries=2, agreed=2, together=None)
        self.assert_lengths(rules("signs a 1", "figures a 1", "ranks a 1"), carries=None, same=None, agreed=None)
        self.assert_lengths(rules("signs a 1", "figures 1 a", "ranks 1 a"), carries=2, same=2, agreed=2)
        self.assert_lengths(rules("signs a b", "figures a b", "ranks a b"), same=None)
        self.assert_lengths(rules("signs 1 2", "figures 1 2", "length; ranks 1 2"), same=None)
        self.assert_lengths(rules("signs 1 2", "figures 1=2", "length"), same=None)
        self.assert_lengths(rules("signs 1 2\nnames 12 12 12", "figures 1 2", "ranks 1 2"), same=None)

    def test_forms_make_the_difference(self):
        pair = ("ranks a b 1", "ranks b a 1")
        self.assert_lengths(rules("signs a b 1\nnames a 1*\nnames 1", *pair), carries=None, same=None, together=None)
        self.assert_lengths(rules("signs a b 1\nnames 1 1 1 1 1 ab", *pair), carries=6, same=6, agreed=6, together=None)
        self.assert_lengths(rules("signs a b 1\nnames 1+ a\nnames 1 1 1 1 b", *pair), carries=5, same=5)
        self.assert_lengths(rules("signs a b 1\nnames 1+ a\nnames 1 1? 1? 1? 1? b", *pair), carries=2)
        self.assert_lengths(rules("signs a b\nnames a", "ranks a b", "length"), carries=None, same=None, together=None)
        self.assert_lengths(rules("signs a b\nnames ab", "ranks a b", "length"), carries=None, same=1, together=None)
        self.assert_lengths(rules("signs a b\nnames a? b a\nnames b b", "ranks a b", "ranks b a"), carries=2, agreed=2)

    def test_long_names_are_needed(self):
        runs = "signs 1 2\nnames 12 12 12 12 12 12+"
        self.assert_lengths(rules(runs, "figures 1 2", "ranks 1 2"), carries=7, agreed=7, same=7)
        self.assert_lengths(rules(runs, "ranks 1 2", "figures 1=2"), carries=7, together=7)
        tail = "signs a b 1 2\nnames a a a a 12+ ab\nnames a a a a 1 1"
        self.assert_lengths(rules(tail, "figures 1=2 a b", "ranks 1=2 a b"), carries=6, agreed=6)
        steps = "signs a b\nnames a+ b+ a+ b+ a+ b+"
        self.assert_lengths(rules(steps, "ranks a=b; back a b", "ranks a=b; ranks a b"), carries=7, agreed=7)
        only = "signs a b c\nnames a a a a a a+\nnames b b b b b b*"
        self.assert_lengths(rules(only, "ranks a b c", "length; ranks b a c"), carries=6, agreed=6)

    def test_three_names(self):
        self.assert_lengths(rules("signs a b c", "ranks a b c", "ranks a=c b"), together=1)
        self.assert_lengths(rules("signs a b c", "ranks a b c", "ranks a=b c"), together=2)
        self.assert_lengths(rules("signs a b c\nnames abc", "ranks a b c", "ranks a=b c"), together=None)
        self.assert_lengths(rules("signs a b c\nnames abc bc?", "ranks a b c", "ranks a=b=c"), together=2)
        self.assert_lengths(rules("signs a b c", "ranks a=b c", "ranks a b c"), together=1)
        house = House(rules("signs a b c", "ranks a b c", "ranks a=c b"))
        told = together(house, (), "one", "two")
        self.assertEqual(told[2:], ("a", "b", "c"))

    def test_unknown_ranks(self):
        self.assert_lengths(rules("signs a", "ranks known", "ranks a"), carries=None, same=None)
        self.assert_lengths(rules("signs a b", "ranks known", "ranks known"), carries=1, agreed=1, together=1, same=1)
        self.assert_lengths(rules("signs a b", "ranks known a<b", "ranks a b"), carries=None, agreed=None, same=None)
        self.assert_lengths(rules("signs a b", "ranks known a<=b", "ranks a b"), carries=1, agreed=2, together=1, same=1)
        self.assert_lengths(rules("signs a b", "ranks a b", "ranks known a<=b"), carries=2, agreed=2, together=2, same=1)
        self.assert_lengths(rules("signs a b\nnames ab", "ranks a b", "ranks known a<=b"), carries=None, agreed=None)
        self.assert_lengths(rules("signs a 1 2", "figures known 1<a", "figures 1 2 a"), carries=1)
        self.assert_lengths(rules("signs a 1 2", "figures known 1<a 1<2", "figures 1 2 a"), carries=None, same=None)
        self.assert_lengths(rules("signs a 1 2", "ranks 1=2 a", "figures known 1<a 1=2"), carries=2)
        self.assert_lengths(rules("signs a b", "ranks known; back known", "length"), carries=2, together=2)

    def test_listings_close_what_is_open(self):
        text = rules("signs a b c", "ranks a b c", "ranks known")
        seen = ()
        for rows, length in ((("a", "b"), 1), (("ac", "b"), 1), (("b", "c"), 2), (("bc", "c"), None)):
            seen = seen + (("two", rows),)
            self.assertEqual(length_of("carries", text, seen), length, seen)
        self.assertEqual(same(House(text), seen, "two", "one"), ("same",))
        self.assertEqual(same(House(text), seen + (("one", ("a", "b")),), "two", "one"), ("same",))

    def test_arguments_by_name(self):
        house = House(FOLDED)
        for relation in RELATIONS:
            told = getattr(trusting, relation)(other="loose", one="exact", seen=(), house=house)
            self.assertEqual(told, getattr(trusting, relation)(house, (), "exact", "loose"))
            names = ["house", "seen", "one", "other"]
            self.assertEqual(list(inspect.signature(getattr(trusting, relation)).parameters), names)
            shows = getattr(trusting, "shows_" + relation)
            self.assertEqual(list(inspect.signature(shows).parameters), names + ["value"])
            self.assertIs(shows(value=told, other="loose", one="exact", seen=(), house=house), True)

    def test_errors_in_their_sequence(self):
        house = House("signs a b 1 2\nrule dim\n  ranks known a<b\nrule odd\n  length")
        unfit = (("dim", ("b", "a")),)
        for relation in RELATIONS:
            act, shows = getattr(trusting, relation), getattr(trusting, "shows_" + relation)
            for value in bad_seen():
                with self.assertRaises(BadSeen) as caught:
                    act(house, value, 1, 2)
                self.assertIs(caught.exception.value, value)
                self.assertRaises(BadSeen, shows, house, value, 1, 2, 3)
            for ask in (lambda: act(house, unfit, 1, 2), lambda: shows(house, unfit, 1, 2, 3)):
                with self.assertRaises(Unfit) as caught:
                    ask()
                self.assertIs(caught.exception.value, unfit)
            for value in strange_values():
                for ask in (
                    lambda: act(house, (), value, 2), lambda: act(house, (), "dim", value),
                    lambda: shows(house, (), value, 2, 3), lambda: shows(house, (), "odd", value, 3),
                ):
                    with self.assertRaises(NoRule) as caught:
                        ask()
                    self.assertIs(caught.exception.value, value)


class ShowsTest(unittest.TestCase):

    def measure(self, relation, text, seen, most):
        """Whether each value of worlds and short names is shown just if it is right."""
        house, many = House(text), 3 if relation == "together" else 2
        length = length_of(relation, text, seen)
        names = list(all_names(text, most))
        right = 0
        for some in all_worlds(text):
            plain, fits = Plain(some), all(is_listed(House(some), rule, rows) for rule, rows in seen)
            told = [()]
            for _ in range(many):
                told = [more + (name,) for more in told for name in names]
            for more in told:
                first = lambda x, y: plain.compare("one", x, y)
                second = lambda x, y: plain.compare("two", x, y)
                good = fits and is_broken(relation, first, second, more)
                good = good and max(len(name) for name in more) == length
                value = (WORDS[relation], House(some)) + more
                shows = getattr(trusting, "shows_" + relation)
                if random.Random(repr(value[2:])).random() < 0.2 or good:
                    self.assertIs(shows(house, seen, "one", "two", value), good, value)
                    right += good
        self.assertGreater(right, 0)

    def test_two_names(self):
        text = rules("signs a b", "ranks known", "ranks a b")
        for relation in ("carries", "agreed", "same"):
            self.measure(relation, text, (), 2)
            self.measure(relation, text, (("one", ("a", "b")),), 2)

    def test_three_names(self):
        self.measure("together", rules("signs a b", "ranks known", "ranks known"), (("two", ("a", "b")),), 1)
        self.measure("together", rules("signs a b\nnames a? ab", "ranks a b", "ranks known"), (), 2)

    def test_any_value(self):
        text = rules("signs a b", "ranks known a<=b", "ranks a b")
        house = House(text)
        some = House(text.replace("known a<=b", "a=b"))
        for relation in RELATIONS:
            shows = getattr(trusting, "shows_" + relation)
            told = getattr(trusting, relation)(house, (), "one", "two")
            self.assertIs(shows(house, (), "one", "two", told), True)
            for value in any_values() + [
                list(told), told[:-1], told[1:], told + ("a",), (told,), (relation,), [relation], (WORDS[relation],),
                (relation,) + told[1:], (True,) + told[1:], told[:1] + (house,) + told[2:], told[:1] + (text,) + told[2:],
                told[:1] + (None,) + told[2:], told[:-1] + (told[-1] + "a",), told[:-1] + ("c",), told[:-1] + (1,),
                told[:-1] + (None,), told[:-1] + ((told[-1],),), told[:2] + (list(told[2]),) + told[3:],
                told[:2] + (["b"],) + told[3:], told[:1] + (House(FOLDED),) + told[2:], told[:2] + tuple("a" for _ in told[2:]),
                told[:2] + tuple("a" * 101 for _ in told[2:]), told[0], (told[0], some, told[2:]),
            ]:
                self.assertIs(shows(house, (), "one", "two", value), False, (relation, value))
            self.assertIs(shows(house, (), "one", "one", (relation,)), True)
            for value in any_values() + [told, [relation], (relation, 1), relation, (relation, some, "a", "b")]:
                self.assertIs(shows(house, (), "one", "one", value), False)

    def test_longer_names_are_not_shown(self):
        house = House(FOLDED)
        self.assertIs(shows_carries(house, (), "exact", "loose", ("not", house, "Ab", "aA")), True)
        self.assertIs(shows_carries(house, (), "exact", "loose", ("not", house, "Aa", "a1")), True)
        self.assertIs(shows_carries(house, (), "exact", "loose", ("not", house, "Abb", "aA")), False)
        self.assertIs(shows_carries(house, (), "exact", "loose", ("not", house, "aA", "Ab")), False)
        self.assertIs(shows_together(house, (), "exact", "loose", ("apart", house, "A", "Ab", "a")), True)
        self.assertIs(shows_together(house, (), "exact", "loose", ("apart", house, "A", "a", "Ab")), False)
        self.assertIs(shows_together(house, (), "exact", "loose", ("apart", house, "A", "Ab", "aa")), False)


class LargeTest(unittest.TestCase):

    SIGNS = "signs a A b B 1 2 - _"

    def test_eight_signs(self):
        for one, two, lengths in (
            ("ranks known", "ranks known", (1, 1, 1, 1)),
            ("ranks - _ 1 2 A a B b", "ranks - _ 1 2 a=A b=B", (2, 2, 2, 1)),
            ("ranks - _ 1 2 a=A b=B; back known A<a a<B B<b", "figures known -<_ _<1 1=2 2<a a=A A<B B=b", (2, 2, 2, 1)),
            ("ranks -=_ 1 2 a=A b=B; ranks known", "ranks known -=_ _<1 1<2 2<a a=A A<B B=b", (None, None, None, 1)),
            ("ranks known -=_ 1<2 a=A b=B; back known", "ranks -=_=1=2=a=A=b=B", (2, 2, 2, 1)),
            ("ranks known -=_ _=1 1=2 2=a a=A A=B B=b; length; back known", "length", (None, None, None, 1)),
            ("length; back known", "length; ranks known", (1, 1, 1, 1)),
            ("ranks known; ranks known; back known", "figures known; back known; ranks known", (1, 1, 1, 1)),
        ):
            text = rules(self.SIGNS, one, two)
            for relation, length in zip(("carries", "agreed", "together", "same"), lengths):
                self.assertEqual(length_of(relation, text), length, (relation, text))

    def test_forms_of_six_items(self):
        head = self.SIGNS + "\nnames aA+ bB? -_ 12* -_? aAbB+\nnames - _ 12+ -_ aA* 12"
        for one, two, lengths in (
            ("ranks - _ 1 2 A a B b", "ranks _ - 1 2 A a B b", (3, 3, None, 3)),
            ("ranks known", "ranks known", (3, 3, 3, 3)),
            ("ranks known -=_ a=A b=B 1=2; back known", "ranks known -=_ a=A b=B 1=2", (3, 3, 3, 3)),
            ("figures - _ 1 2 A a B b", "ranks - _ 1 2 A a B b", (5, 5, None, 5)),
        ):
            text = rules(head, one, two)
            for relation, length in zip(("carries", "agreed", "together", "same"), lengths):
                self.assertEqual(length_of(relation, text), length, (relation, text))

    def test_what_follows_from_one_another(self):
        for seed in range(60):
            drawn = random.Random(seed)
            text = draw_house(drawn, most_signs=8, known=drawn.choice([0, 0.3, 1]), forms=0.5)
            told = {
                (relation, one): length_of(relation, text, (), one, other)
                for relation in RELATIONS for one, other in (("one", "two"), ("two", "one"))
            }
            self.assertEqual(told["same", "one"], told["same", "two"])
            self.assertEqual(told["agreed", "one"], told["agreed", "two"])
            both = [told["carries", one] for one in ("one", "two") if told["carries", one] is not None]
            self.assertEqual(told["same", "one"], min(both, default=None), text)
            for one in ("one", "two"):
                if told["carries", one] is None:
                    self.assertIsNone(told["agreed", one], text)
                    self.assertIsNone(told["together", one], text)


if __name__ == "__main__":
    unittest.main()
