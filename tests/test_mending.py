"""Section 9: changes of works, and the cheapest ones by which they are sound."""

import inspect
import itertools
import random
import unittest

from tests.draws import draw_house
from tests.plain import all_names
from tests.plainworks import all_changes, draw_work, plain_changed, plain_choices, plain_work
from tests.test_seeing import bad_seen
from tests.test_tools import TEXT, Refusals
from tests.test_trust import SEEING
from tests.test_works import fitting_seen
from tests.values import any_values, strange_values
from trustsorted.errors import BadChanges, BadOffers, BadSeen, OrderError, Unfit
from trustsorted.houses import House
from trustsorted.mending import changed, cheapest, shows_cheapest
from trustsorted.works import Work, weak

MILL = "file old by exact\nfile new by fine\nkeep once by loose of old\nboth all by loose of new and once\nfind hit by loose of all for Ab"
CUTS = "file f by exact\ncut g by exact of f from a to b\ncut h by loose of g from a to b\ncut i by fine of h from a to b\n" \
    "cut j by value of i from a to b\ncut k by exact of j from a to b\nkeep l by loose of k"

FULL_CUTS = "file f by exact\ncut g by exact of f from a to b\ncut h by loose of g from a to b\ncut i by fine of h from a to b\n" \
    "cut j by exact of i from b to b\ncut k by exact of j from a to b\nkeep l by loose of k"


def long_work(many, last="keep z by exact of a"):
    """A work of so many lines."""
    return "\n".join([f"file {letter} by exact" for letter in "abcdefghijklm"[:many - 1]] + [last])


def wrong_changes(work):
    """Values that are no changes of the work of MILL; none of its lines is numbered 6."""
    good = ("by", 1, "fine")
    wrong = strange_values(tuple) + [(value,) for value in any_values()] + [[good], good, (list(good),), ((good,),), {good: 1}]
    wrong += [(good, good), (("by", 2, "exact"), good), (("sort", 3), good), (("sort", 4), ("sort", 3)), (("sort", 3), ("sort", 3))]
    wrong += [(good, ("by", 1, "loose")), (good, ("by", 1, "value")), (("by", 1, "loose"), good)]
    wrong += [(("by", at, "value"),) for at in (0, -1, 6, 13, True, None, "1", 10 ** 30, (1,), [1])]
    wrong += [(("by", 1, rule),) for rule in ("exact", "nothing", "", None, 1, True, ["fine"], ("fine",), House(TEXT))]
    wrong += [(("sort", at),) for at in (0, -1, 1, 2, 6, True, None, "3", 10 ** 30, (3,), [3])]
    wrong += [(change,) for change in (
        ("by", 1), ("by",), ("by", 1, "fine", 1), ("sort", 3, "fine"), ("sort",), ("By", 1, "fine"), ("Sort", 3), (1, 1, "fine"), (None, 3),
        (["sort"], 3), ("keep", 3), ("sort", 3, ()), ((), 3), ["sort", 3], "sort")]
    many = tuple(("by", at, "value") for at in range(1, 6))
    return wrong + [many, many[:4] + (("sort", 3),), many[::-1][:2]]


class ChangedTest(Refusals):

    def setUp(self):
        self.work = Work(House(TEXT), MILL)

    def assert_changed(self, text, changes, told):
        """Whether the changed work has this text; it cannot be made if that is None."""
        self.assertEqual(plain_changed(TEXT, text, changes), told)
        work = Work(House(TEXT), text)
        if told is None:
            self.assert_raises(BadChanges, changes, changed, work, changes)
        else:
            made = changed(work, changes)
            self.assertIs(type(made), Work)
            self.assertEqual(made.text, told)
            self.assertTrue(made == Work(House(TEXT), told))
        self.assertEqual(work.text, text)

    def test_no_changes(self):
        self.assert_changed(MILL, (), MILL)
        self.assertTrue(changed(self.work, ()) == self.work)

    def test_another_rule(self):
        for line in range(1, 6):
            now = plain_work(TEXT, MILL)[line - 1][2]
            for rule in ("exact", "loose", "fine", "value"):
                lines = MILL.split("\n")
                lines[line - 1] = lines[line - 1].replace(" by " + now, " by " + rule)
                told = None if rule == now else "\n".join(lines)
                self.assert_changed(MILL, (("by", line, rule),), told)
        self.assert_changed("file by by exact\nsort of by fine of by", (("by", 1, "fine"), ("by", 2, "exact")),
                            "file by by fine\nsort of by exact of by")

    def test_sorted_files(self):
        lines = MILL.split("\n")
        self.assert_changed(MILL, (("sort", 3),), "\n".join(
            lines[:2] + ["sort a by loose of old", "keep once by loose of a"] + lines[3:]))
        self.assert_changed(MILL, (("sort", 4),), "\n".join(
            lines[:3] + ["sort a by loose of new", "sort b by loose of once", "both all by loose of a and b"] + lines[4:]))
        self.assert_changed(MILL, (("sort", 5),), "\n".join(lines[:4] + ["sort a by loose of all", "find hit by loose of a for Ab"]))
        self.assert_changed("file f by exact\ncut g by fine of f from a to b", (("sort", 2),),
                            "file f by exact\nsort a by fine of f\ncut g by fine of a from a to b")
        for line in (1, 2):
            self.assert_changed(MILL, (("sort", line),), None)
        self.assert_changed("file a by exact\nsort b by fine of a", (("sort", 2),), None)

    def test_a_file_that_stands_twice_is_sorted_once(self):
        for word in ("merge", "both", "only"):
            self.assert_changed(f"file f by exact\n{word} g by fine of f and f", (("sort", 2),),
                                f"file f by exact\nsort a by fine of f\n{word} g by fine of a and a")

    def test_files_that_are_sorted_by_this_rule_are_sorted_all_the_same(self):
        self.assert_changed("file f by exact\nsort g by fine of f\nkeep h by fine of g", (("sort", 3),),
                            "file f by exact\nsort g by fine of f\nsort a by fine of g\nkeep h by fine of a")

    def test_names_of_sorting_lines(self):
        self.assert_changed("file a by exact\nkeep c by fine of a\nmerge x by fine of a and c\nkeep d by fine of x", (("sort", 3),),
                            "file a by exact\nkeep c by fine of a\nsort b by fine of a\nsort e by fine of c\nmerge x by fine of b and e\n"
                            "keep d by fine of x")
        self.assert_changed("file z by exact\nkeep y by fine of z\nkeep b by fine of z\nkeep x by fine of b", (("sort", 2), ("sort", 3), ("sort", 4)),
                            "file z by exact\nsort a by fine of z\nkeep y by fine of a\nsort c by fine of z\nkeep b by fine of c\n"
                            "sort d by fine of b\nkeep x by fine of d")
        self.assert_changed("file f by exact\nfind a by fine of f for a", (("sort", 2),),
                            "file f by exact\nsort b by fine of f\nfind a by fine of b for a")
        text = "\n".join([f"file {letter} by exact" for letter in "abcdefghi"] + ["merge x by fine of a and b"])
        self.assert_changed(text, (("sort", 10),), "\n".join(text.split("\n")[:9] + [
            "sort j by fine of a", "sort k by fine of b", "merge x by fine of j and k"]))

    def test_several_at_once(self):
        self.assert_changed(MILL, (("by", 3, "fine"), ("sort", 3)), MILL.replace(
            "keep once by loose of old", "sort a by fine of old\nkeep once by fine of a"))
        self.assert_changed(MILL, (("by", 1, "value"), ("by", 4, "exact"), ("sort", 4), ("sort", 5)), "\n".join([
            "file old by value", "file new by fine", "keep once by loose of old", "sort a by exact of new", "sort b by exact of once",
            "both all by exact of a and b", "sort c by loose of all", "find hit by loose of c for Ab"]))
        self.assert_changed(MILL, (("by", 1, "value"), ("by", 2, "exact"), ("by", 3, "exact"), ("by", 4, "exact")), "\n".join([
            "file old by value", "file new by exact", "keep once by exact of old", "both all by exact of new and once",
            "find hit by loose of all for Ab"]))

    def test_the_twelfth_line_is_the_last_one(self):
        for many in (9, 10, 11, 12):
            text = long_work(many, "merge z by exact of a and b")
            told = text.replace("merge z by exact of a and b", "sort {0} by exact of a\nsort {1} by exact of b\nmerge z by exact of {0} and {1}")
            letters = [letter for letter in "abcdefghijklmnop" if f"file {letter} " not in text]
            self.assert_changed(text, (("sort", many),), told.format(*letters) if many <= 10 else None)
            text = long_work(many)
            told = text.replace("keep z by exact of a", f"sort {letters[0]} by exact of a\nkeep z by exact of {letters[0]}")
            self.assert_changed(text, (("sort", many),), told if many <= 11 else None)
            self.assert_changed(text, (("by", many, "fine"),), text.replace("keep z by exact", "keep z by fine"))

    def test_a_promise_has_at_most_four_cuts(self):
        self.assert_changed(CUTS, (("by", 6, "loose"),), CUTS.replace("k by exact", "k by loose"))
        for line, rule, other in ((2, "loose", "fine"), (3, "exact", "value"), (6, "fine", "value")):
            for some in (rule, other):
                lines = CUTS.split("\n")
                lines[line - 1] = lines[line - 1].replace(" by " + plain_work(TEXT, CUTS)[line - 1][2], " by " + some)
                self.assert_changed(CUTS, (("by", line, some),), "\n".join(lines))
        self.assert_changed(FULL_CUTS, (("by", 2, "value"),), None)
        self.assert_changed(FULL_CUTS, (("by", 6, "value"),), None)
        self.assert_changed(FULL_CUTS, (("by", 2, "value"), ("by", 6, "value")), FULL_CUTS.replace(
            "g by exact", "g by value").replace("k by exact", "k by value"))
        self.assert_changed(FULL_CUTS, (("by", 2, "loose"),), FULL_CUTS.replace("g by exact", "g by loose"))
        self.assert_changed(FULL_CUTS, (("by", 3, "value"),), FULL_CUTS.replace("h by loose", "h by value"))
        self.assert_changed(FULL_CUTS, (("by", 2, "loose"), ("by", 3, "value")), None)

    def test_values_that_are_no_changes(self):
        for value in wrong_changes(self.work):
            self.assert_raises(BadChanges, value, changed, self.work, value)

    def test_beside_a_plain_telling(self):
        counts = {True: 0, False: 0}
        for seed in range(250):
            drawn = random.Random(seed)
            text = draw_house(drawn, most_signs=3, forms=0.3, rules=("one", "two", "three"))
            if not [name for name in all_names(text, 2) if name]:
                continue
            lines = draw_work(drawn, text, 12)
            work, offers = Work(House(text), lines), all_changes(text, lines)
            for _ in range(6 if offers else 0):
                changes = tuple(sorted(drawn.sample(offers, min(len(offers), drawn.randint(1, 4)))))
                told = plain_changed(text, lines, changes)
                counts[told is None] += 1
                if told is None:
                    self.assert_raises(BadChanges, changes, changed, work, changes)
                else:
                    self.assertEqual(changed(work, changes).text, told, (lines, changes))
        self.assertGreater(min(counts.values()), 100)


def wrong_offers():
    """Values that are no offers for the work of MILL."""
    good = (("by", 1, "fine"), 4)
    other = (("sort", 3), 5)
    wrong = strange_values(tuple) + [(value,) for value in any_values()] + [(), [good], good, (list(good),), {good: 1}]
    wrong += [(good, good), (other, good), (good, (good[0], 5)), ((good[0], 1), good), (good, other, other), (good, 1)]
    wrong += [((good[0], price),) for price in (0, 10, -1, True, None, "4", (4,), 10 ** 30, [4])]
    wrong += [(good[:1],), (good + (1,),), ((4, good[0]),), (good[0],), ((good, 4),), ((good[0],), 4)]
    wrong += [((changes[0], 4),) for changes in wrong_changes(None) if isinstance(changes, tuple) and len(changes) == 1]
    return wrong + [tuple((("by", at, "value"), 1) for at in range(1, 6))]


def is_plain_sound(house, seen, text):
    return weak(Work(house, text), seen) == ("sound",)


def plain_cheapest(house, seen, lines, offers):
    """What cheapest tells, by a plain list of all choices."""
    reasons = ()
    for price, choice, text in plain_choices(house.text, lines, offers):
        told = weak(Work(house, text), seen)
        if told == ("sound",):
            return ("choice", price, choice, reasons)
        reasons += ((choice, told),)
    return ("none", reasons)


class CheapestTest(Refusals):

    def setUp(self):
        self.work = Work(House(TEXT), MILL)

    def test_choices_in_sequence(self):
        fine, exact, sort = ("by", 1, "fine"), ("by", 3, "exact"), ("sort", 3)
        for offers, price, choice, ahead in (
            (((fine, 4), (sort, 5)), 4, (fine,), [()]),
            (((fine, 5), (sort, 4)), 4, (sort,), [()]),
            (((fine, 5), (sort, 5)), 5, (fine,), [()]),
            (((exact, 1), (sort, 9)), 9, (sort,), [(), (exact,)]),
            (((("by", 2, "loose"), 1), (fine, 9)), None, None, None),
            (((fine, 9), (("by", 2, "loose"), 1), (("by", 4, "fine"), 8)), 9, (fine,), [(), (("by", 2, "loose"),), (("by", 4, "fine"),)]),
        ):
            if price is None:
                self.assert_raises(BadOffers, offers, cheapest, self.work, (), offers)
                continue
            told = cheapest(self.work, (), offers)
            self.assertEqual(told[:3], ("choice", price, choice), offers)
            self.assertEqual([reason[0] for reason in told[3]], ahead)
            self.assertEqual(told, plain_cheapest(self.work.house, (), MILL, offers))
            self.assertIs(shows_cheapest(self.work, (), offers, told), True)

    def test_choices_of_one_price_stand_as_tuples_do(self):
        offers = ((("by", 2, "loose"), 2), (("by", 3, "value"), 2), (("by", 4, "value"), 2), (("by", 5, "value"), 2))
        told = cheapest(self.work, (), offers)
        self.assertEqual(told[0], "none")
        choices = [reason[0] for reason in told[1]]
        self.assertEqual(choices, sorted(choices, key=lambda choice: (len(choice), choice)))
        self.assertEqual(len(choices), 16)
        offers = tuple((change, price) for (change, _), price in zip(offers, (1, 1, 2, 3)))
        choices = [tuple(change[1] for change in reason[0]) for reason in cheapest(self.work, (), offers)[1]]
        self.assertEqual(choices[:10], [(), (2,), (3,), (2, 3), (4,), (2, 4), (3, 4), (5,), (2, 3, 4), (2, 5)])

    def test_a_sound_work_needs_nothing(self):
        house = House(TEXT)
        work = Work(house, "file a by exact\nkeep b by exact of a")
        for offers in (((("by", 1, "fine"), 1),), ((("by", 2, "fine"), 9), (("sort", 2), 9))):
            self.assertEqual(cheapest(work, (), offers), ("choice", 0, (), ()))
            for value, is_right in (
                (("choice", 0, (), ()), True), (("choice", False, (), ()), False), (("choice", 0, [], ()), False), (("choice", 0, (), []), False),
                (("none", ()), False), (("choice", 0, ()), False), (("choice", 0, (), (((), ("sound",)),)), False),
            ):
                self.assertIs(shows_cheapest(work, (), offers, value), is_right, value)

    def test_choices_that_cannot_be_made_at_once(self):
        """No two rules for one line, no thirteenth line, no fifth cut: such choices are passed over."""
        for text, offers, choices in (
            ("file a by exact\nkeep b by loose of a", ((("by", 2, "value"), 1), (("sort", 2), 9)), [(), (0,), (1,), (0, 1)]),
            ("file a by exact\nkeep b by loose of a\nkeep c by loose of b",
             ((("by", 2, "exact"), 1), (("by", 2, "fine"), 2), (("by", 2, "value"), 3)), [(), (0,), (1,), (2,)]),
            (long_work(9, "both w by loose of b and c\nkeep y by loose of a\nkeep z by loose of b"),
             ((("sort", 10), 1), (("sort", 11), 2)), [(), (0,), (1,)]),
            (FULL_CUTS, ((("by", 2, "loose"), 1), (("by", 3, "value"), 1), (("by", 7, "value"), 3)), [(), (0,), (1,), (2,), (0, 2), (1, 2)]),
        ):
            house = House(TEXT)
            told = cheapest(Work(house, text), (), offers)
            self.assertEqual(told, plain_cheapest(house, (), text, offers), text)
            all_told = [choice for price, choice, some in plain_choices(TEXT, text, offers)]
            self.assertEqual(all_told, [tuple(offers[at][0] for at in choice) for choice in choices])
            ahead = [reason[0] for reason in told[-1]]
            self.assertEqual(ahead, all_told[:len(ahead)])
            self.assertEqual(told[0], "none" if len(ahead) == len(all_told) else "choice")

    def test_offers_that_cannot_be_made_alone(self):
        for text, change in ((long_work(12), ("sort", 12)), (long_work(11, "merge z by exact of a and b"), ("sort", 11)), (FULL_CUTS, ("by", 2, "value"))):
            work = Work(House(TEXT), text)
            self.assertIsNone(plain_changed(TEXT, text, (change,)))
            for offers in (((change, 1),), tuple(sorted([(("by", 1, "fine"), 1), (change, 1)]))):
                self.assert_raises(BadOffers, offers, cheapest, work, (), offers)

    def test_beside_a_plain_list_of_all_choices(self):
        counts = {}
        for seed in range(160):
            drawn = random.Random(seed)
            text = draw_house(drawn, most_signs=3, known=drawn.choice([0, 0.5]), forms=0.2, rules=("one", "two", "three"))
            names = list(all_names(text, 2))
            if not [name for name in names if name]:
                continue
            house, lines = House(text), draw_work(drawn, text, 6)
            seen = fitting_seen(drawn, house, names, 1)
            alone = [change for change in all_changes(text, lines) if plain_changed(text, lines, (change,))]
            for _ in range(2 if alone else 0):
                some = sorted(drawn.sample(alone, min(len(alone), drawn.randint(1, 4))))
                offers = tuple((change, drawn.choice([1, 2, 2, 3, 5, 9])) for change in some)
                told = cheapest(Work(house, lines), seen, offers)
                self.assertEqual(told, plain_cheapest(house, seen, lines, offers), (text, lines, seen, offers))
                self.assertIs(shows_cheapest(Work(house, lines), seen, offers, told), True)
                key = (told[0], len(told[2]) if told[0] == "choice" else 0)
                counts[key] = counts.get(key, 0) + 1
        self.assertGreater(counts["none", 0], 15)
        self.assertGreater(counts["choice", 0], 15)
        self.assertGreater(counts["choice", 1], 15)
        self.assertGreater(counts["choice", 2], 2)

    def test_the_cheapest_choice_is_the_first_one_that_is_sound(self):
        """All choices one by one, by price; none of those ahead is sound."""
        house, lines = House(TEXT), MILL.replace("file new by fine", "file new by exact")
        offers = ((("by", 1, "fine"), 3), (("by", 2, "fine"), 2), (("sort", 3), 4), (("sort", 4), 5))
        told = cheapest(Work(house, lines), (), offers)
        sums = []
        for some in itertools.chain.from_iterable(itertools.combinations(offers, many) for many in range(5)):
            text = plain_changed(TEXT, lines, tuple(change for change, price in some))
            if text and is_plain_sound(house, (), text):
                sums.append(sum(price for change, price in some))
        self.assertEqual(told[1], min(sums))
        self.assertTrue(len(told[3]) > 2 and all(reason[1][0] == "weak" for reason in told[3]))

    def test_errors(self):
        house = House(SEEING)
        work = Work(house, "file a by dim\nkeep b by clear of a")
        offers = ((("sort", 2), 1),)
        for value in bad_seen():
            self.assert_raises(BadSeen, value, cheapest, work, value, 1)
            self.assert_raises(BadSeen, value, shows_cheapest, work, value, 1, 2)
        unfit = (("dim", ("b", "a")),)
        self.assert_raises(Unfit, unfit, cheapest, work, unfit, 1)
        self.assert_raises(Unfit, unfit, shows_cheapest, work, unfit, 1, 2)
        for value in wrong_offers():
            self.assert_raises(BadOffers, value, cheapest, self.work, (), value)
            self.assert_raises(BadOffers, value, shows_cheapest, self.work, (), value, 1)
        self.assertEqual(cheapest(work, (), offers)[0], "choice")
        for price in (1, 9):
            self.assertEqual(cheapest(self.work, (), ((("by", 1, "fine"), price),))[1], price)

    def test_values_that_are_shown(self):
        offers = ((("by", 3, "exact"), 1), (("sort", 3), 9))
        told = cheapest(self.work, (), offers)
        word, price, choice, reasons = told
        (first, (weak_word, number, some, load)), second = reasons
        right = (first, (weak_word, number, House(TEXT), (("A", "AA", "a"),)))
        self.assertEqual((word, price, choice, first, second[0]), ("choice", 9, (("sort", 3),), (), (("by", 3, "exact"),)))
        self.assertNotEqual(right[1][3], load)
        self.assertIs(shows_cheapest(self.work, (), offers, (word, price, choice, (right, second))), True)
        for reason in (
            (first, (weak_word, number + 1, some, load)), (first, (weak_word, True, some, load)), (first, (weak_word, number, some, ())),
            (first, (weak_word, number, TEXT, load)), (first, (weak_word, number, some, (("A", "Aab", "a"),))), (first, ("sound",)),
            (first, None), (first,), (first, right[1], 1), list(right), (list(first), right[1]), ((("by", 3, "exact"),), right[1]), (None, right[1]),
        ):
            self.assertIs(shows_cheapest(self.work, (), offers, (word, price, choice, (reason, second))), False, reason)
        for value in any_values() + [
            list(told), told[:3], told[1:], told + (1,), (told,), ("none", reasons), (word, 8, choice, reasons), (word, 9.0, choice, reasons),
            (word, "9", choice, reasons), (word, price, (), reasons), (word, price, list(choice), reasons), (word, price, (["sort", 3],), reasons),
            (word, price, choice, reasons[:1]), (word, price, choice, reasons[::-1]), (word, price, choice, list(reasons)),
            (word, price, choice, reasons + reasons[:1]), (word, price, choice, ()), (word, price, choice, None), ("Choice", price, choice, reasons),
            (word, price, (("by", 3, "exact"),), reasons), (None, price, choice, reasons), (word, price, choice + choice, reasons),
            (word, price, (("sort", True),), reasons), (word, True, choice, reasons),
        ]:
            self.assertIs(shows_cheapest(self.work, (), offers, value), False, value)

    def test_none_that_is_shown(self):
        offers = ((("by", 3, "value"), 1),)
        told = cheapest(self.work, (), offers)
        self.assertEqual((told[0], [reason[0] for reason in told[1]]), ("none", [(), (("by", 3, "value"),)]))
        self.assertIs(shows_cheapest(self.work, (), offers, told), True)
        for value in any_values() + [("none",), ("none", ()), ("none", told[1][:1]), ("none", told[1][::-1]), ("none", list(told[1])),
                                     ("none", told[1], 1), ("None", told[1]), (told[1],), ("choice", told[1])]:
            self.assertIs(shows_cheapest(self.work, (), offers, value), False, value)

    def test_one_and_true_are_not_the_same(self):
        offers = ((("by", 1, "fine"), 1),)
        told = cheapest(self.work, (), offers)
        self.assertEqual(told[:3], ("choice", 1, (("by", 1, "fine"),)))
        for value in (("choice", True) + told[2:], ("choice", 1, (("by", True, "fine"),)) + told[3:]):
            self.assertEqual(value, told)
            self.assertIs(shows_cheapest(self.work, (), offers, value), False)


class ArgumentsTest(unittest.TestCase):

    def test_arguments_by_name(self):
        work, offers = Work(House(TEXT), MILL), ((("by", 1, "fine"), 4),)
        self.assertEqual(changed(changes=(("by", 1, "fine"),), work=work).text, MILL.replace("old by exact", "old by fine"))
        told = cheapest(offers=offers, seen=(), work=work)
        self.assertEqual(told[:3], ("choice", 4, (("by", 1, "fine"),)))
        self.assertIs(shows_cheapest(value=told, offers=offers, seen=(), work=work), True)
        for act, names in ((changed, ["work", "changes"]), (cheapest, ["work", "seen", "offers"]),
                           (shows_cheapest, ["work", "seen", "offers", "value"])):
            self.assertEqual(list(inspect.signature(act).parameters), names)
            self.assertEqual(act.__module__, "trustsorted.mending")

    def test_errors_keep_any_value(self):
        for error in (BadChanges, BadOffers):
            self.assertEqual(error.__bases__, (OrderError,))
            for value in any_values():
                self.assertIs(error(value).value, value)


if __name__ == "__main__":
    unittest.main()
