"""Section 7: whether a tool can be trusted with files that keep promises."""

import inspect
import itertools
import random
import unittest

from tests.draws import draw_house
from tests.loads import FILES, plain_keeps, plain_meant, splits
from tests.plain import Plain, all_names, all_worlds
from tests.test_seeing import bad_seen
from tests.test_tools import TEXT, Refusals, bad_promises, bad_tools
from tests.values import any_values, strange_values
from trustsorted.errors import BadPromises, BadSeen, BadTool, OrderError, Unfit
from trustsorted.houses import House, is_listed, is_world
from trustsorted.tools import keeps, meant
from trustsorted.trust import shows_trust, trust
from trustsorted.trusting import carries

SIGNS = "signs a A b B 1 2 - _"
SEEING = "signs a b 1 2\nrule dim\n  ranks known a<b\n  length\n  back known\nrule clear\n  figures 1 2 a b\n" \
    "rule odd\n  figures known 1!=2"


def bare(rule):
    return (rule, (), ())


def cut_to(rule, *cuts):
    return (rule, (), tuple(sorted(cuts)))


def rules(head, **told):
    return head + "".join(f"\nrule {name}\n  " + "\n  ".join(passes.split("; ")) for name, passes in told.items())


def measure(house, seen, promises, tool):
    """(rows, signs of the longest row) of what trust tells, None if it is right; what is told is looked at."""
    told = trust(house, seen, promises, tool)
    assert shows_trust(house, seen, promises, tool, told) is True, told
    if told == ("right",):
        return None
    word, world, load = told
    assert word == "deceived" and is_world(house, world) and type(load) is tuple and len(load) == FILES[tool[0]]
    assert all(type(rows) is tuple for rows in load)
    assert all(is_listed(world, rule, rows) for rule, rows in seen)
    assert all(keeps(world, promise, rows) for promise, rows in zip(promises, load))
    assert meant(world, promises[0][0], tool, load) is False
    return sum(len(rows) for rows in load), max(len(row) for rows in load for row in rows)


class TrustTest(unittest.TestCase):

    def assert_told(self, text, cases, seen=()):
        house = House(text)
        for promises, tool, told in cases:
            self.assertEqual(measure(house, seen, promises, tool), told, (text, promises, tool))

    def test_each_tool(self):
        self.assert_told(TEXT, [
            ((bare("exact"),), ("keep", "loose"), (3, 2)), ((bare("loose"),), ("keep", "exact"), (3, 1)),
            ((bare("fine"),), ("keep", "loose"), None), ((bare("exact"),), ("keep", "exact"), None),
            ((bare("exact"), bare("exact")), ("merge", "exact"), None), ((bare("fine"), bare("fine")), ("merge", "loose"), (2, 1)),
            ((bare("loose"), bare("loose")), ("merge", "fine"), None), ((bare("loose"), bare("fine")), ("merge", "fine"), None),
            ((bare("fine"), bare("loose")), ("merge", "fine"), (2, 1)), ((bare("value"), bare("value")), ("merge", "exact"), (2, 2)),
            ((bare("loose"), bare("loose")), ("both", "loose"), None), ((bare("fine"), bare("fine")), ("both", "loose"), None),
            ((bare("exact"), bare("exact")), ("both", "loose"), (3, 2)), ((bare("loose"), bare("loose")), ("only", "exact"), (3, 1)),
            ((bare("loose"), bare("fine")), ("only", "loose"), None), ((bare("fine"),), ("find", "loose", "Ab"), None),
            ((bare("exact"),), ("find", "loose", "ab"), (2, 2)), ((bare("exact"),), ("find", "value", "12"), (2, 2)),
            ((bare("exact"),), ("find", "value", "2"), (3, 2)), ((bare("value"),), ("find", "exact", "12"), (2, 3)),
            ((bare("fine"),), ("cut", "loose", "1", "a"), None), ((bare("exact"),), ("cut", "loose", "a", "a"), (2, 2)),
            ((bare("exact"),), ("cut", "loose", "b", "a"), None),
        ])

    def test_unlikes(self):
        self.assert_told(TEXT, [
            ((("exact", ("loose",), ()),), ("keep", "loose"), None), ((("exact", ("loose",), ()),), ("keep", "value"), None),
            ((("exact", ("exact",), ()),), ("keep", "loose"), (3, 2)), ((("loose", ("exact",), ()),), ("keep", "exact"), None),
            ((("loose", ("loose",), ()),), ("keep", "exact"), None), ((("fine", ("loose",), ()), bare("fine")), ("merge", "loose"), (2, 1)),
            ((("exact", ("loose",), ()), ("exact", ("loose",), ())), ("both", "loose"), (3, 2)),
            ((("loose", ("loose",), ()), ("loose", ("loose",), ())), ("both", "exact"), (3, 2)),
            ((("loose", ("fine",), ()), ("fine", ("exact",), ())), ("both", "loose"), None),
            ((("loose", ("loose",), ()), ("loose", (), ())), ("both", "exact"), (3, 1)),
            ((("loose", ("loose",), ()),), ("find", "exact", "a"), (2, 2)), ((("loose", ("exact",), ()),), ("find", "exact", "A"), (3, 1)),
        ])

    def test_a_third_row_that_keeps_the_promise_is_needed_ahead(self):
        head = "signs a b c d"
        text = rules(head, one="ranks a b c d", two="ranks a d b=c")
        self.assert_told(text, [
            ((bare("one"),), ("find", "two", "d"), (3, 1)), ((bare("one"),), ("find", "two", "a"), None),
            ((bare("one"),), ("find", "two", "b"), (2, 1)), ((("one", ("two",), ()),), ("find", "two", "d"), (3, 1)),
        ])
        text = rules(head, one="ranks a b c d", two="ranks d c b a")
        self.assert_told(text, [
            ((bare("one"),), ("find", "two", "d"), (3, 1)), ((("one", ("one",), ()),), ("find", "two", "d"), (3, 1)),
            ((cut_to("one", ("one", "c", "d")),), ("find", "two", "d"), (3, 1)),
            ((("one", ("one",), (("one", "c", "d"),)),), ("find", "two", "d"), (3, 2)),
        ])
        text = rules("signs a b c\nnames abc", one="ranks a b c", two="ranks c b a")
        self.assert_told(text, [
            ((bare("one"),), ("find", "two", "c"), (3, 1)), ((("one", ("one",), ()),), ("find", "two", "c"), (3, 1)),
            ((("one", ("one",), (("one", "b", "c"),)),), ("find", "two", "c"), None),
            ((("one", ("one",), (("one", "b", "c"),)),), ("find", "two", "b"), (2, 1)),
        ])

    def test_cuts(self):
        self.assert_told(TEXT, [
            ((cut_to("exact", ("exact", "a", "aa")),), ("keep", "loose"), (3, 3)),
            ((cut_to("exact", ("exact", "a", "aA")),), ("keep", "loose"), (3, 4)),
            ((cut_to("exact", ("exact", "a", "a1")),), ("keep", "loose"), None),
            ((cut_to("exact", ("loose", "a", "ab")),), ("keep", "loose"), (3, 2)),
            ((cut_to("exact", ("loose", "a", "a")),), ("keep", "exact"), None),
            ((cut_to("exact", ("loose", "b", "a")),), ("keep", "loose"), None),
            ((cut_to("exact", ("value", "2", "2"), ("loose", "1", "2")),), ("find", "value", "2"), None),
            ((cut_to("exact", ("exact", "121", "2")),), ("find", "value", "2"), (3, 3)),
            ((cut_to("exact", ("exact", "1222", "2")),), ("find", "value", "2"), (3, 3)),
            ((cut_to("exact", ("exact", "1222", "2"), ("fine", "1222", "1222")),), ("find", "value", "2"), None),
            ((bare("value"), cut_to("value", ("value", "1111", "2222"))), ("both", "exact"), (3, 4)),
            ((cut_to("loose", ("loose", "b", "a")), bare("exact")), ("merge", "exact"), (2, 2)),
        ])

    def test_long_rows_are_needed(self):
        low, high = "1" * 20, "1" * 19 + "2"
        self.assert_told(TEXT, [
            ((cut_to("value", ("value", low, high)),), ("keep", "exact"), (3, 21)),
            ((cut_to("value", ("value", low, low), ("exact", "", "b")),), ("find", "exact", low), None),
            ((cut_to("value", ("value", low, "2" * 20)),), ("find", "exact", "2"), None),
            ((cut_to("loose", ("loose", "a" * 20, "A" * 20)),), ("keep", "exact"), (3, 20)),
            ((cut_to("loose", ("loose", "a" * 20, "A" * 20), ("exact", "A" * 20, "A" * 19 + "a")),), ("keep", "exact"), (3, 20)),
            ((cut_to("loose", ("loose", "a" * 20, "A" * 20), ("exact", "A" * 20, "A" * 20)),), ("keep", "exact"), None),
        ])
        runs = rules("signs 1 2\nnames 12 12 12 12 12 12+", one="figures 1 2", two="ranks 1 2")
        self.assert_told(runs, [
            ((bare("one"), bare("one")), ("merge", "two"), (2, 7)), ((bare("one"),), ("find", "two", "1" * 7), (3, 7)),
            ((bare("one"),), ("keep", "two"), None),
        ])

    def test_last_passes(self):
        head = "signs a b"
        text = rules(head, one="ranks a b", two="ranks a=b; back a b", three="length", four="ranks a=b; back b a")
        self.assert_told(text, [
            ((bare("one"),), ("keep", "two"), None), ((bare("two"),), ("keep", "three"), None), ((bare("one"),), ("keep", "three"), (3, 2)),
            ((bare("two"), bare("two")), ("merge", "four"), (2, 1)), ((bare("one"), bare("one")), ("merge", "two"), (2, 2)),
            ((bare("three"), bare("three")), ("both", "two"), (3, 1)), ((bare("two"), bare("four")), ("both", "three"), None),
            ((bare("two"),), ("find", "four", "a"), (2, 1)), ((bare("two"),), ("find", "four", ""), None),
            ((bare("two"),), ("find", "three", "ab"), None), ((bare("two"),), ("cut", "four", "b", "b"), (2, 1)),
            ((bare("two"),), ("cut", "four", "b", "a"), None),
        ])

    def test_names_have_forms(self):
        pair = {"one": "ranks a b 1", "two": "ranks b a 1"}
        self.assert_told(rules("signs a b 1\nnames 1 1 1 1 1 ab", **pair), [
            ((bare("one"), bare("one")), ("merge", "two"), (2, 6)), ((bare("one"),), ("keep", "two"), None),
            ((bare("one"),), ("find", "two", "11111a"), (2, 6)), ((bare("one"),), ("cut", "two", "11111b", "11111b"), (2, 6)),
            ((bare("one"),), ("cut", "two", "11111b", "11111a"), None),
            ((bare("one"), bare("one")), ("both", "two"), (3, 6)),
        ])
        self.assert_told(rules("signs a b 1\nnames a 1*\nnames 1", **pair), [
            ((bare("one"), bare("one")), (word, "two"), None) for word in ("merge", "both", "only")
        ])
        self.assert_told(rules("signs a\nnames a", one="ranks a", two="length"), [
            ((bare("one"),), ("keep", "two"), None), ((bare("one"),), ("find", "two", "a"), None),
        ])

    def test_files_of_merge_that_are_listed_by_unlike_rules(self):
        house = House(TEXT)
        told = trust(house, (), (bare("exact"), bare("loose")), ("merge", "exact"))
        self.assertEqual(told[0], "deceived")
        self.assertEqual(measure(house, (), (bare("exact"), bare("loose")), ("merge", "exact")), (2, 1))
        none = cut_to("exact", ("exact", "b", "a"))
        told = trust(house, (), (none, bare("loose")), ("merge", "exact"))
        self.assertEqual((told[2][0], len(told[2][1])), ((), 2))

    def test_rules_that_are_known_in_part(self):
        text = rules("signs a b", one="ranks known", two="ranks a b", three="ranks known a<=b")
        self.assert_told(text, [
            ((bare("one"),), ("keep", "one"), None), ((bare("one"),), ("keep", "two"), (3, 1)), ((bare("two"),), ("keep", "one"), (3, 2)),
            ((bare("three"),), ("keep", "two"), (3, 1)), ((bare("two"), bare("two")), ("merge", "three"), (2, 1)),
            ((bare("three"), bare("three")), ("merge", "two"), (2, 2)), ((bare("three"),), ("cut", "two", "a", "a"), (2, 1)),
        ])
        self.assert_told(text, [
            ((bare("three"),), ("keep", "two"), None), ((bare("three"), bare("three")), ("merge", "two"), None),
            ((bare("two"), bare("two")), ("merge", "three"), None), ((bare("one"),), ("keep", "two"), (3, 1)),
        ], (("three", ("ab", "b")),))

    def test_one_world_for_all_rules(self):
        text = rules("signs a b c", one="ranks known a<b; back known", two="ranks known c<=b", three="ranks known")
        self.assert_told(text, [
            ((("one", ("two",), (("three", "a", "b"),)),), ("keep", "three"), (3, 1)),
            ((("one", ("two",), (("three", "a", "b"),)), bare("two")), ("both", "three"), (3, 1)),
            ((("one", ("three", "two"), (("three", "b", "a"),)), bare("two")), ("only", "one"), (3, 1)),
        ], (("one", ("c", "b")), ("three", ("", "b"))))

    def test_what_was_seen_closes_what_is_open(self):
        text = rules("signs a b c", one="ranks a b c", two="ranks known")
        house, seen, sure = House(text), (), []
        cases = [
            ((bare("one"),), ("keep", "two")), ((bare("two"),), ("keep", "one")), ((bare("one"), bare("one")), ("merge", "two")),
            ((bare("one"),), ("find", "two", "b")), ((bare("two"), bare("one")), ("only", "one")),
        ]
        for rows in (("a", "b"), ("ac", "b"), ("b", "c"), ("bc", "c")):
            seen = seen + (("two", rows),)
            now = [case for case in cases if measure(house, seen, *case) is None]
            self.assertLessEqual(set(sure), set(now))
            sure = now
        self.assertEqual(sure, cases)

    def test_a_rule_on_both_sides_is_the_same_in_each_world(self):
        house = House(rules("signs a b 1 2 -", one="ranks known; figures known; back known", two="figures known"))
        for rule in ("one", "two"):
            for word, bounds in (("keep", ()), ("merge", ()), ("both", ()), ("only", ()), ("find", ("a-",)), ("cut", ("a", "b"))):
                promises = (bare(rule),) * FILES[word]
                self.assertEqual(trust(house, (), promises, (word, rule) + bounds), ("right",))

    def test_arguments_by_name(self):
        house = House(TEXT)
        told = trust(tool=("keep", "loose"), promises=(bare("exact"),), seen=(), house=house)
        self.assertEqual(told, trust(house, (), (bare("exact"),), ("keep", "loose")))
        self.assertIs(shows_trust(value=told, tool=("keep", "loose"), promises=(bare("exact"),), seen=(), house=house), True)
        self.assertEqual(list(inspect.signature(trust).parameters), ["house", "seen", "promises", "tool"])
        self.assertEqual(list(inspect.signature(shows_trust).parameters), ["house", "seen", "promises", "tool", "value"])
        self.assertEqual([act.__module__ for act in (trust, shows_trust)], ["trustsorted.trust"] * 2)


class ReadersAndWritersTest(unittest.TestCase):

    def assert_carried(self, text, one, other):
        """What of tools is right where one rule carries another one."""
        house = House(text)
        is_carried = carries(house, (), one, other) == ("carries",)
        names = list(all_names(text, 2))
        told = [trust(house, (), (bare(one), bare(one)), (word, other)) for word in ("both", "only")]
        for low, high in itertools.product(names[:4], repeat=2):
            told.append(trust(house, (), (bare(one),), ("find", other, low)))
            told.append(trust(house, (), (bare(one),), ("cut", other, low, high)))
        if is_carried:
            self.assertTrue(all(some == ("right",) for some in told), text)
            self.assertEqual(trust(house, (), (bare(other), bare(other)), ("merge", one)), ("right",), text)
        return is_carried

    def test_carried_rules(self):
        counts = {True: 0, False: 0}
        for seed in range(110):
            drawn = random.Random(seed)
            text = draw_house(drawn, most_signs=3, known=drawn.choice([0, 0.3]), forms=0.3)
            if list(all_names(text, 2)):
                counts[self.assert_carried(text, "one", "two")] += 1
        self.assertGreater(min(counts.values()), 25)

    def test_all_tools_are_right_just_if_both_rules_carry_each_other(self):
        counts = {True: 0, False: 0}
        for seed in range(300):
            drawn = random.Random(seed)
            text = draw_house(drawn, most_signs=2, known=0, forms=0.2)
            house, names = House(text), list(all_names(text, 2))
            if len(names) < 4:
                continue
            both = carries(house, (), "one", "two") == carries(house, (), "two", "one") == ("carries",)
            told = [trust(house, (), (bare("one"),) * 2, (word, "two")) for word in ("merge", "both", "only")]
            told.append(trust(house, (), (bare("one"),), ("keep", "two")))
            for name in names:
                told.append(trust(house, (), (bare("one"),), ("find", "two", name)))
                told.append(trust(house, (), (bare("one"),), ("cut", "two", name, drawn.choice(names))))
            if both:
                self.assertTrue(all(some == ("right",) for some in told), text)
            elif "names" not in text:
                self.assertFalse(all(some == ("right",) for some in told), text)
            counts[both] += 1
        self.assertGreater(min(counts.values()), 20)


class ErrorsTest(Refusals):

    def test_each_error(self):
        house, good = House(SEEING), (bare("dim"),)
        tool = ("keep", "clear")
        for value in bad_seen():
            self.assert_raises(BadSeen, value, trust, house, value, 1, 2)
            self.assert_raises(BadSeen, value, shows_trust, house, value, 1, 2, 3)
        unfit = (("dim", ("b", "a")),)
        self.assert_raises(Unfit, unfit, trust, house, unfit, 1, 2)
        self.assert_raises(Unfit, unfit, shows_trust, house, unfit, 1, 2, 3)
        house, good, tool = House(TEXT), (bare("exact"),), ("keep", "loose")
        for value in bad_tools():
            self.assert_raises(BadTool, value, trust, house, (), 1, value)
            self.assert_raises(BadTool, value, trust, house, (), good, value)
            self.assert_raises(BadTool, value, shows_trust, house, (), good, value, 1)
        self.assertEqual(trust(house, (), good, tool)[0], "deceived")

    def test_promises(self):
        house = House(TEXT)
        for tool, many in ((("keep", "loose"), 1), (("find", "loose", "a"), 1), (("cut", "loose", "a", "b"), 1),
                           (("merge", "loose"), 2), (("both", "loose"), 2), (("only", "loose"), 2)):
            good = bare("exact")
            wrong = strange_values(tuple) + [(), good, (good,) * (many - 1), (good,) * (many + 1), [good] * many]
            wrong.extend([(value,) + (good,) * (many - 1) for value in bad_promises()])
            wrong.extend([(good,) * (many - 1) + (value,) for value in bad_promises()])
            for value in wrong:
                self.assert_raises(BadPromises, value, trust, house, (), value, tool)
                self.assert_raises(BadPromises, value, shows_trust, house, (), value, tool, 1)

    def test_bounds_that_are_met(self):
        house, long = House(TEXT), "a" * 20
        promise = ("exact", ("exact", "fine", "loose", "value"), tuple(("loose", "a" * at, long) for at in range(4)))
        self.assertEqual(trust(house, (), (promise,), ("find", "loose", long))[0], "deceived")
        self.assertEqual(trust(house, (), (promise,), ("cut", "loose", long, long))[0], "deceived")
        longer = ("exact", (), (("loose", "a", "a" * 21),))
        value = (longer,)
        self.assert_raises(BadPromises, value, trust, house, (), value, ("find", "loose", long))

    def test_errors_keep_any_value(self):
        self.assertEqual(BadPromises.__bases__, (OrderError,))
        for value in any_values():
            self.assertIs(BadPromises(value).value, value)


class ShowsTest(unittest.TestCase):

    def measure(self, text, seen, promises, tool, most):
        """Whether each value of worlds and short loads is shown just if it is right."""
        house = House(text)
        least = measure(house, seen, promises, tool)
        names = list(all_names(text, most))
        right = 0
        for some in all_worlds(text):
            world, plain = House(some), Plain(some)
            fits = all(plain.is_listed(rule, rows) for rule, rows in seen)
            for many in range(4):
                for rows in itertools.product(names, repeat=many):
                    for load in splits(rows, FILES[tool[0]]):
                        good = fits and (many, max([len(row) for row in rows], default=0)) == least
                        good = good and all(plain_keeps(plain.compare, *told) for told in zip(promises, load))
                        good = good and not plain_meant(plain.compare, promises[0][0], tool, load)
                        value = ("deceived", world, load)
                        if good or random.Random(repr(load)).random() < 0.01:
                            self.assertIs(shows_trust(house, seen, promises, tool, value), good, (some, load))
                            right += good
        self.assertGreater(right, 0)

    def test_all_short_loads(self):
        text = rules("signs a b", one="ranks known", two="ranks a b")
        for promises, tool in (
            ((bare("one"),), ("keep", "two")), ((bare("one"), bare("two")), ("merge", "two")), ((bare("one"),), ("find", "two", "a")),
            ((bare("two"),), ("cut", "one", "a", "a")), ((bare("two"), bare("two")), ("both", "one")),
        ):
            self.measure(text, (), promises, tool, 2)
        self.measure(text, (("one", ("a", "b")),), (bare("two"), ("two", ("two",), (("one", "", "b"),))), ("only", "one"), 2)

    def test_any_value(self):
        text = rules("signs a b", one="ranks known a<=b", two="ranks a b")
        house, some = House(text), House(text.replace("known a<=b", "a=b"))
        promises, tool = (bare("one"), bare("one")), ("merge", "two")
        told = trust(house, (), promises, tool)
        self.assertIs(shows_trust(house, (), promises, tool, told), True)
        word, world, load = told
        for value in any_values() + [
            list(told), told[:2], told[1:], told + (1,), (told,), ("right",), ("Deceived",) + told[1:], (True,) + told[1:],
            (word, house, load), (word, text, load), (word, None, load), (word, House(TEXT), load), (word, world, list(load)),
            (word, world, load[0]), (word, world, load + ((),)), (word, world, ((), ())), (word, world, load[:1]),
            (word, world, tuple(list(rows) for rows in load)), (word, world, ((1,), ("a",))), (word, world, (("c",), ("a",))),
            (word, world, (("a", "b", "b"), ())), (word, world, (None, ("b", "a"))), (word, world, "ab"), (word, some, (("a",), ("b",))),
            (word, world, {}), (word, world, ((["a"],), ("b",))), (word, world, (("aa",), ("b" * 101,))),
        ]:
            self.assertIs(shows_trust(house, (), promises, tool, value), False, value)
        for value in any_values() + [told, ["right"], ("right", 1), "right", ("deceived", some, (("a",), ("b",)))]:
            is_right = value == ("right",)
            self.assertIs(shows_trust(house, (), (bare("one"),), ("keep", "one"), value), is_right)

    def test_longer_rows_and_more_rows_are_not_shown(self):
        house = House(TEXT)
        for load, told in (
            ((("A", "Ab", "a"),), True), ((("a", "ab", "A"),), False), ((("A", "Aab", "a"),), False), ((("A", "Ab", "Ab", "a"),), False),
            ((("2", "A", "Ab", "a"),), False), ((("A", "A", "a"),), False), ((("Ab", "Abb", "ab"),), False), ((("A", "AA", "a"),), True),
        ):
            value = ("deceived", house, load)
            self.assertIs(shows_trust(house, (), (bare("exact"),), ("keep", "loose"), value), told, load)


class LargeTest(unittest.TestCase):

    def test_eight_signs(self):
        text = rules(
            SIGNS, one="ranks - _ 1 2 A a B b", two="figures - _ 1 2 a=A b=B; ranks A a B b 1=2=-=_",
            three="ranks known -<_ _<1 1<2; length; back known", four="ranks known"
        )
        house = House(text)
        for promises, tool, told in (
            ((bare("one"),), ("keep", "two"), None), ((bare("two"),), ("keep", "one"), None),
            ((bare("one"), bare("two")), ("merge", "one"), (2, 2)), ((bare("three"), bare("three")), ("both", "four"), (3, 1)),
            ((bare("four"),), ("find", "three", "a1"), (2, 2)), ((bare("four"),), ("cut", "two", "a1", "b2"), (2, 1)),
            ((("one", ("four",), ()), ("two", ("four",), ())), ("only", "three"), (3, 1)),
            ((("four", ("one",), (("three", "a", "b"),)),), ("keep", "two"), None),
            ((("four", ("one",), (("three", "a", "b-12"),)),), ("keep", "three"), (3, 1)),
            ((("two", (), (("one", "-a1", "b"), ("two", "_a", "b2"))), bare("one")), ("both", "two"), (3, 2)),
        ):
            self.assertEqual(measure(house, (), promises, tool), told, (promises, tool))

    def test_cuts_by_all_rules(self):
        text = rules(
            SIGNS, one="ranks - _ 1 2 A a B b", two="figures - _ 1 2 a=A b=B", three="ranks a=A=b=B 1=2 -=_; back a b A B 1 2 - _",
            four="length; ranks b a B A 2 1 _ -"
        )
        house = House(text)
        low, high = "a-1_2Ab" * 2 + "a", "b_2-1Bb" * 2 + "b-1"
        cuts = tuple(sorted([
            ("four", low, high), ("one", low, high), ("three", "a" * 15, "-" * 17), ("two", low, high)
        ]))
        for word, bounds in (("keep", ()), ("merge", ()), ("both", ()), ("only", ()), ("find", (low,)), ("cut", (low, high))):
            for by in ("one", "two", "three", "four"):
                for rule, unlikes in (("one", ()), ("three", ("four", "two"))):
                    measure(house, (), ((rule, unlikes, cuts),) * FILES[word], (word, by) + bounds)


if __name__ == "__main__":
    unittest.main()
