"""Section 9: works, what they make, and their first tool that can be deceived."""

import inspect
import itertools
import random
import unittest

from tests.draws import draw_house
from tests.loads import FILES
from tests.plain import Plain, all_names, all_worlds
from tests.plainworks import draw_work, plain_results, plain_tool, plain_work
from tests.test_seeing import bad_seen
from tests.test_tools import DIM, FORMS, LONG, TEXT, TOO_LONG, Refusals, bad_files
from tests.test_trust import SEEING
from tests.values import any_values, strange_values
from trustsorted.errors import BadLoad, BadSeen, BadWork, NoFile, NotFull, OrderError, Unfit
from trustsorted.houses import House, listed, world
from trustsorted.trust import trust
from trustsorted.works import Work, results, shows_weak, weak

HEAD = "file old by exact\nfile new by fine\nsort more by value of old\nfind lost by loose of new for a"

GOOD = (
    "file x by exact", "sort x by loose of old", "keep x by fine of new", "cut x by value of more from 1 to 2",
    "merge x by exact of old and new", "both x by loose of new and new", "only x by fine of more and old",
    "find x by value of old for aA",
)

BOUNDS = (
    "cut x by value of more from {} to 2", "cut x by value of more from 2 to {}", "find x by value of old for {}",
)


def wrong_number(house, text):
    """The number of the first wrong line of a work, None if it is one."""
    try:
        Work(house, text)
    except BadWork as error:
        return error.value
    return None


class WorkTest(Refusals):

    def setUp(self):
        self.house = House(TEXT)

    def assert_wrong(self, text, number):
        """Whether a text is a work just if number is None, otherwise whether this line is the first wrong one."""
        self.assertEqual(wrong_number(self.house, text), number, text)
        told = plain_work(TEXT, text)
        self.assertEqual(None if isinstance(told, list) else told, number, text)

    def test_each_kind_of_line(self):
        for line in GOOD:
            self.assert_wrong(HEAD + "\n" + line, None)
            self.assert_wrong(line + "\n" + HEAD, None if line.startswith("file") else 1)

    def test_one_word_out_in_or_exchanged(self):
        counts = {True: 0, False: 0}
        others = ["", "of", "by", "and", "from", "to", "for", "file", "sort", "keep", "cut", "merge", "both", "only", "find",
                  "x", "old", "more", "lost", "nothing", "exact", "loose", "a", "A", "1", "1a", "-", LONG, TOO_LONG, "File", '""']
        for line in GOOD:
            words = line.split(" ")
            for at in range(len(words) + 1):
                texts = [words[:at] + words[at + 1:]] if at < len(words) else []
                texts += [words[:at] + [other] + words[at:] for other in others]
                texts += [words[:at] + [other] + words[at + 1:] for other in others if at < len(words)]
                for told in texts:
                    text = HEAD + "\n" + " ".join(told)
                    number = wrong_number(self.house, text)
                    plain = plain_work(TEXT, text)
                    self.assertEqual(number, None if isinstance(plain, list) else plain, text)
                    self.assertIn(number, (None, 5))
                    counts[number is None] += 1
        self.assertGreater(counts[True], 150)
        self.assertGreater(counts[False], 1500)

    def test_blanks_and_signs_in_and_beside_words(self):
        for line in GOOD:
            for wrong in (" " + line, line + " ", line.replace(" ", "  ", 1), line.replace(" by ", "  by "), line.replace(" ", "\t", 1),
                          line.upper(), line.capitalize(), line + ".", line + "\n", "\n" + line, line.replace(" by ", " by\n")):
                self.assertEqual(wrong_number(self.house, HEAD + "\n" + wrong), 6 if wrong == line + "\n" else 5, wrong)

    def test_names_of_lines(self):
        for name, number in (
            ("abcdefgh", None), ("abcdefghi", 1), ("z", None), ("file", None), ("by", None), ("A", 1), ("a1", 1), ("a-b", 1),
            ("", 1), ("1", 1), ("exact", None), ("aB", 1),
        ):
            self.assert_wrong(f"file {name} by exact", number)

    def test_names_that_stand_twice_and_files_that_are_none(self):
        self.assert_wrong("file a by exact\nfile a by fine", 2)
        self.assert_wrong("file a by exact\nkeep b by fine of a\nkeep b by fine of a", 3)
        self.assert_wrong("file a by exact\nfind b by fine of a for a\nfile b by fine", 3)
        self.assert_wrong("file a by exact\nfind b by fine of a for a\nkeep c by fine of b", 3)
        self.assert_wrong("file a by exact\nfind b by fine of a for a\nmerge c by fine of a and b", 3)
        self.assert_wrong("file a by exact\nfind b by fine of a for a\nmerge c by fine of b and a", 3)
        self.assert_wrong("file a by exact\nfind b by fine of a for a\nfind c by fine of b for a", 3)
        self.assert_wrong("file a by exact\nkeep b by fine of b", 2)
        self.assert_wrong("keep b by fine of a\nfile a by exact", 1)
        self.assert_wrong("file a by exact\nmerge b by fine of a and c\nfile c by exact", 2)
        self.assert_wrong("file a by exact\nmerge b by fine of a and a\nboth c by fine of b and b", None)

    def test_what_a_later_line_is_does_not_change_the_number(self):
        lines = HEAD.split("\n") + list(GOOD[:1])
        for at in range(len(lines)):
            for wrong in ("", "nothing", "file old by nothing", "file", "keep y by exact of lost"):
                for rest in (lines[at + 1:], [], ["nothing"], [""] * 20):
                    self.assert_wrong("\n".join(lines[:at] + [wrong] + rest), at + 1)

    def test_twelve_lines(self):
        lines = [f"file {letter} by exact" for letter in "abcdefghijklmnop"]
        for many in range(1, 17):
            self.assert_wrong("\n".join(lines[:many]), None if many <= 12 else 13)
        self.assert_wrong("\n".join(lines[:12] + [""]), 13)
        self.assert_wrong("\n".join(lines[:12] + ["nothing", "nothing"]), 13)
        self.assert_wrong("\n".join(lines[:11] + ["nothing"] + lines[12:]), 12)
        self.assert_wrong("\n".join(lines[:11]) + "\n", 12)
        self.assertEqual(len(Work(self.house, "\n".join(lines[:12]))), 12)

    def test_texts_without_lines(self):
        self.assert_wrong("", 1)
        self.assert_wrong("\n", 1)
        self.assert_wrong(" ", 1)
        for value in strange_values(str):
            with self.assertRaises(BadWork) as caught:
                Work(self.house, value)
            self.assertIs(type(caught.exception.value), int)
            self.assertEqual(caught.exception.value, 0)

    def test_rows_in_lines(self):
        for bound in BOUNDS:
            for row, number in (
                ("a", None), ("A12b", None), (LONG, None), (TOO_LONG, 5), ("", 5), ('""', 5), ("c", 5), ("a-", 5), ("*", 5),
            ):
                self.assert_wrong(HEAD + "\n" + bound.format(row), number)

    def test_rows_have_forms(self):
        house = House(FORMS)
        for row, number in (("a", None), ("aab", None), ("b", 2), ("abb", 2), ("a" * 20, None), ("a" * 21, 2), ("", 2)):
            for line in ("cut x by r of f from {} to a", "cut x by r of f from a to {}", "find x by s of f for {}"):
                text = "file f by r\n" + line.format(row)
                self.assertEqual(wrong_number(house, text), number, text)

    def test_rules_of_another_house(self):
        self.assertEqual(wrong_number(House(FORMS), "file f by exact"), 1)
        self.assertEqual(wrong_number(House(DIM), "file f by r\nkeep g by s of f\nkeep h by t of g"), 3)

    def test_a_fifth_cut(self):
        cuts = ["cut {} by {} of {} from {} to {}".format(*told) for told in (
            ("b", "exact", "a", "a", "b"), ("c", "loose", "b", "a", "b"), ("d", "exact", "c", "a", "bb"), ("e", "fine", "d", "b", "a"))]
        head = "\n".join(["file a by exact"] + cuts)
        self.assert_wrong(head, None)
        for rule, low, high, number in (
            ("exact", "a", "b", None), ("fine", "b", "a", None), ("exact", "a", "bb", None), ("value", "a", "b", 6),
            ("exact", "a", "A", 6), ("exact", "b", "b", 6), ("loose", "a", "bb", 6),
        ):
            self.assert_wrong(head + f"\ncut f by {rule} of e from {low} to {high}", number)
        self.assert_wrong(head + "\nmerge f by exact of e and a\ncut g by value of f from 1 to 2", None)
        self.assert_wrong(head + "\nsort f by fine of e\ncut g by value of f from 1 to 2", 7)
        self.assert_wrong(head + "\nboth f by fine of d and e\ncut g by value of f from 1 to 2\ncut h by fine of g from 1 to 2", 8)

    def test_promises(self):
        work = Work(self.house, "\n".join([
            "file old by exact", "file new by fine", "keep a by loose of old", "keep b by exact of a", "keep c by loose of b",
            "cut d by value of c from 1 to 2", "cut e by exact of d from a to b", "cut f by value of new from 1 to 2",
            "merge g by fine of e and f", "both h by fine of e and f", "only i by fine of f and e", "sort j by value of e",
        ]))
        one, other = ("value", "1", "2"), ("exact", "a", "b")
        for name, promise in (
            ("old", ("exact", (), ())), ("new", ("fine", (), ())), ("a", ("exact", ("loose",), ())),
            ("b", ("exact", ("exact", "loose"), ())), ("c", ("exact", ("exact", "loose"), ())),
            ("d", ("exact", ("exact", "loose"), (one,))), ("e", ("exact", ("exact", "loose"), (other, one))),
            ("f", ("fine", (), (one,))), ("g", ("exact", (), (one,))), ("h", ("exact", ("exact", "loose"), (other, one))),
            ("i", ("fine", (), (one,))), ("j", ("value", ("exact", "loose"), (other, one))),
        ):
            self.assertEqual(work.promise(name), promise, name)
        for name, tool in (
            ("old", None), ("a", ("keep", "loose")), ("d", ("cut", "value", "1", "2")), ("g", ("merge", "fine")), ("h", ("both", "fine")),
            ("i", ("only", "fine")), ("j", None),
        ):
            self.assertEqual(work.tool(name), tool, name)

    def test_properties(self):
        work = Work(self.house, HEAD)
        self.assertIs(work.house, self.house)
        self.assertEqual(work.text, HEAD)
        self.assertEqual(work.names, ("old", "new", "more", "lost"))
        self.assertEqual(work.inputs, ("old", "new"))
        self.assertEqual(len(work), 4)
        self.assertEqual(work.tool("lost"), ("find", "loose", "a"))
        for name in work.names:
            self.assertIs(name in work, True)
        for value in any_values() + ["Old", "old ", "exact", ["old"], ("old",), b"old", self.house]:
            self.assertIs(value in work, False)
        self.assertEqual(Work(self.house, "file a by exact").inputs, ("a",))

    def test_beside_a_plain_reading(self):
        kinds = {}
        for seed in range(300):
            drawn = random.Random(seed)
            text = draw_house(drawn, most_signs=4, forms=0.3)
            if not list(all_names(text, 2)):
                continue
            lines = draw_work(drawn, text, 12)
            work = Work(House(text), lines)
            for part in plain_work(text, lines):
                self.assertEqual(work.tool(part[1]), plain_tool(part), lines)
                kinds[part[0]] = kinds.get(part[0], 0) + 1
                if part[0] == "find":
                    self.assert_raises(NoFile, part[1], work.promise, part[1])
                else:
                    self.assertEqual(work.promise(part[1]), part[5], lines)
            self.assertEqual(work.names, tuple(part[1] for part in plain_work(text, lines)))
            self.assertEqual(work.inputs, tuple(part[1] for part in plain_work(text, lines) if part[0] == "file"))
            wrong = lines.replace(drawn.choice(lines.split(" ")), drawn.choice(["", "by", "of", "a", "one", "and"]), 1)
            told = plain_work(text, wrong)
            self.assertEqual(wrong_number(House(text), wrong), None if isinstance(told, list) else told, wrong)
        self.assertEqual(len(kinds), 8)
        self.assertGreater(min(kinds.values()), 50)

    def test_names_of_no_file(self):
        work = Work(self.house, HEAD)
        for value in any_values() + ["Old", "exact", ["old"], ("old",), b"old"]:
            self.assert_raises(NoFile, value, work.promise, value)
            self.assert_raises(NoFile, value, work.tool, value)
        self.assert_raises(NoFile, "lost", work.promise, "lost")

    def test_equal_works(self):
        work = Work(self.house, HEAD)
        self.assertTrue(work == Work(House(TEXT), HEAD))
        self.assertFalse(work != Work(House(TEXT), HEAD))
        self.assertFalse(work == Work(self.house, HEAD + "\n" + GOOD[0]))
        self.assertFalse(work == Work(self.house, HEAD.replace("old", "odd")))
        self.assertFalse(work == Work(House(TEXT.replace("a=A b", "A=a b")), HEAD))
        for value in any_values() + [HEAD, self.house, (self.house, HEAD)]:
            self.assertIs(work == value, False)
            self.assertIs(value == work, False)
            self.assertIs(work != value, True)

    def test_other_operators(self):
        work = Work(self.house, HEAD)
        for value in any_values() + [work]:
            for act in (lambda: work + value, lambda: work < value, lambda: work & value, lambda: work - value, lambda: work[value],
                        lambda: work | value, lambda: work >= value, lambda: work * value):
                self.assertRaises(TypeError, act)
        self.assertRaises(TypeError, iter, work)


class ResultsTest(Refusals):

    def test_each_line(self):
        house = House(TEXT)
        work = Work(house, "\n".join([
            "file a by exact", "file b by loose", "sort c by fine of a", "keep d by loose of c", "cut e by exact of c from A to a",
            "merge f by loose of d and b", "both g by loose of a and b", "only h by loose of a and b", "find i by loose of f for b",
        ]))
        told = results(work, (("b", "a", "A", "1"), ("a", "2")))
        self.assertEqual(told, (
            ("b", "a", "A", "1"), ("a", "2"), ("1", "A", "a", "b"), ("1", "A", "b"), ("A", "a"), ("1", "A", "a", "2", "b"),
            (), ("b", "a", "A", "1"), True,
        ))
        self.assertEqual([type(some) for some in told], [tuple] * 8 + [bool])
        self.assertEqual(results(work, ((), ()))[-1], False)

    def test_files_need_not_keep_their_promises(self):
        self.assertEqual(results(Work(House(TEXT), "file a by exact"), (("b", "a"),)), (("b", "a"),))

    def test_rows_that_are_alike_stay_in_their_sequence(self):
        work = Work(House(TEXT), "file a by exact\nsort b by loose of a\nsort c by exact of b\nsort d by loose of c")
        told = results(work, (("ab", "A", "Ab", "a", "ab"),))
        self.assertEqual(told[1:], (("A", "a", "ab", "Ab", "ab"), ("A", "Ab", "a", "ab", "ab"), ("A", "a", "Ab", "ab", "ab")))

    def test_more_than_forty_rows(self):
        house = House(TEXT)
        lines = ["file a by exact"] + [f"merge {new} by exact of {old} and {old}" for old, new in zip("abcdefghij", "bcdefghijk")]
        rows = tuple(sorted(["A" * at for at in range(20)] + ["a" * at for at in range(20)], key=lambda row: (row[:1] == "a", row)))
        told = results(Work(house, "\n".join(lines)), (rows,))
        self.assertEqual([len(some) for some in told], [40 * 2 ** at for at in range(11)])
        self.assertEqual(told[1], tuple(row for row in rows for _ in range(2)))
        work = Work(house, "\n".join(lines[:4] + [
            "sort s by loose of d", "keep t by loose of s", "find u by exact of d for A", "both v by loose of s and d", "cut w by loose of s from a to aa"]))
        told = results(work, (rows,))
        self.assertEqual([len(some) for some in told[:4]], [40, 80, 160, 320])
        self.assertEqual((told[5][:3], len(told[5]), told[6], len(told[8])), (("", "A", "AA"), 20, True, 32))

    def test_beside_plain_tools(self):
        counts = {}
        for seed in range(150):
            drawn = random.Random(seed)
            text = draw_house(drawn, known=0, forms=0.3)
            names = list(all_names(text, 3))
            if not names:
                continue
            lines = draw_work(drawn, text, 12)
            house = House(text)
            work = Work(house, lines)
            files = tuple(tuple(drawn.choice(names) for _ in range(drawn.choice([0, 1, 3, 6]))) for _ in work.inputs)
            if drawn.random() < 0.5:
                files = tuple(listed(house, work.promise(name)[0], rows) for name, rows in zip(work.inputs, files))
            self.assertEqual(results(work, files), plain_results(text, lines, files), (text, lines, files))
            for line, told in zip(lines.split("\n"), results(work, files)):
                counts[line.split(" ")[0], bool(told)] = counts.get((line.split(" ")[0], bool(told)), 0) + 1
        self.assertEqual(len(counts), 16)
        self.assertGreater(min(counts.values()), 5)

    def test_files_that_are_none(self):
        work = Work(House(TEXT), HEAD)
        wrong = strange_values(tuple) + [(), (("a",),), (("a",), ("a",), ("a",)), [("a",), ("a",)], ("a", "a")]
        wrong += [(rows, ("a",)) for rows in bad_files()] + [(("a",), rows) for rows in bad_files()]
        for value in wrong:
            self.assert_raises(BadLoad, value, results, work, value)
        for rows in ((), ("a",) * 40, ("a" * 100,), ("",)):
            self.assertEqual(len(results(work, (rows, rows))), 4)

    def test_houses_that_are_not_full(self):
        house = House(DIM)
        work = Work(house, "file a by r")
        for value in any_values() + [(("a",),)]:
            self.assert_raises(NotFull, house, results, work, value)
        self.assertEqual(results(Work(world(house), "file a by r"), (("a",),)), (("a",),))


def first_deceived(house, seen, text, lines):
    """(number, promises, tool, what trust tells) of the first line that can be deceived, by trust alone; None if there is none."""
    parts = {part[1]: part for part in plain_work(text, lines)}
    for number, part in enumerate(parts.values(), 1):
        tool = plain_tool(part)
        if tool is not None:
            promises = tuple(parts[name][5] for name in part[3])
            told = trust(house, seen, promises, tool)
            if told != ("right",):
                return number, promises, tool, told
    return None


def fitting_seen(drawn, house, names, most):
    """Listings that some world of a house fits."""
    some = world(house)
    rules = [drawn.choice(house.rules) for _ in range(drawn.randint(0, most))]
    return tuple((rule, listed(some, rule, tuple(drawn.choice(names) for _ in range(drawn.randint(2, 4))))) for rule in rules)


class WeakTest(Refusals):

    def test_lines_that_can_be_deceived(self):
        house = House(TEXT)
        for lines, number in (
            ("file a by exact", None), ("file a by exact\nkeep b by exact of a", None), ("file a by exact\nkeep b by loose of a", 2),
            ("file a by exact\nsort b by loose of a\nkeep c by loose of b", None), ("file a by exact\nkeep b by exact of a\nkeep c by fine of b", None),
            ("file a by exact\nkeep b by exact of a\nkeep c by value of b", 3),
            ("file a by exact\nfile b by exact\nmerge c by loose of a and b\nkeep d by loose of c", 3),
            ("file a by fine\nfile b by fine\nboth c by loose of a and b\nonly d by exact of b and a", 4),
            ("file a by exact\nfind b by loose of a for a\nfind c by value of a for a", 2), ("file a by fine\nfind b by loose of a for a", None),
            ("file a by fine\ncut b by exact of a from A to b\nfind c by exact of b for a", 3),
            ("file a by fine\ncut b by exact of a from a to b\nfind c by exact of b for a", 2), ("file a by fine\ncut b by loose of a from A to b", None),
            ("file a by exact\ncut b by exact of a from a to aa\nsort c by exact of b\nkeep d by loose of c", 4),
            ("file a by exact\ncut b by exact of a from a to a1\nkeep c by loose of b", None),
            ("file a by fine\nkeep b by loose of a\nsort c by exact of b\nkeep d by loose of c", None),
            ("file a by exact\nfile b by loose\nmerge c by exact of a and b", 3), ("file b by exact\nmerge c by value of b and b", 2),
        ):
            told = weak(Work(house, lines), ())
            self.assertEqual(told[:2], ("sound",) if number is None else ("weak", number), lines)
            self.assertEqual(len(told), 1 if number is None else 4)

    def test_beside_trust_line_by_line(self):
        counts = {}
        for seed in range(200):
            drawn = random.Random(seed)
            text = draw_house(drawn, most_signs=4, known=drawn.choice([0, 0.5]), forms=0.3, rules=("one", "two", "three"))
            names = list(all_names(text, 2))
            if not names:
                continue
            house, lines = House(text), draw_work(drawn, text, 10)
            seen = fitting_seen(drawn, house, names, 2)
            work = Work(house, lines)
            told, first = weak(work, seen), first_deceived(house, seen, text, lines)
            self.assertIs(shows_weak(work, seen, told), True, (text, lines, told))
            if first is None:
                self.assertEqual(told, ("sound",), (text, lines))
            else:
                self.assertEqual(told, ("weak", first[0]) + first[3][1:], (text, lines))
            counts[told[:2]] = counts.get(told[:2], 0) + 1
        self.assertGreater(counts["sound",], 30)
        self.assertGreater(len(counts), 6)

    def test_loads_show_in_what_works_make(self):
        """A load that deceives the tool of a first line behind files makes its result wrong."""
        house = House(TEXT)
        for word in ("merge", "both", "only"):
            work = Work(house, f"file a by exact\nfile b by exact\n{word} c by loose of a and b")
            told = weak(work, ())
            self.assertEqual(told[:2], ("weak", 3))
            self.assertEqual([len(told[3])] + [type(rows) for rows in told[3]], [2, tuple, tuple])
            made = results(Work(told[2], work.text), told[3])
            self.assertEqual(made[:2], told[3])
            if word == "merge":
                self.assertNotEqual(made[2], listed(told[2], "exact", made[2]))

    def test_errors(self):
        house = House(SEEING)
        work = Work(house, "file a by dim")
        for value in bad_seen():
            self.assert_raises(BadSeen, value, weak, work, value)
            self.assert_raises(BadSeen, value, shows_weak, work, value, 1)
        unfit = (("dim", ("b", "a")),)
        for lines in ("file a by dim", "file a by dim\nkeep b by clear of a"):
            self.assert_raises(Unfit, unfit, weak, Work(house, lines), unfit)
            self.assert_raises(Unfit, unfit, shows_weak, Work(house, lines), unfit, 1)

    def test_all_short_loads_are_shown_just_if_they_are_right(self):
        text = "signs a b\nrule one\n  ranks known\nrule two\n  ranks a b"
        house = House(text)
        lines = "file f by one\nkeep g by one of f\nkeep h by two of g\nkeep i by two of f"
        work, names, right = Work(house, lines), list(all_names(text, 2)), 0
        self.assertEqual(weak(work, ())[:2], ("weak", 4))
        for some in all_worlds(text):
            for rows in itertools.product(names, repeat=3):
                compare = Plain(some).compare
                good = max(map(len, rows)) == 1 and all(compare("one", one, other) <= 0 for one, other in zip(rows, rows[1:]))
                good = good and compare("two", rows[0], rows[2]) == 0 != compare("two", rows[0], rows[1])
                for number in (3, 4):
                    value = ("weak", number, House(some), (rows,))
                    self.assertIs(shows_weak(work, (), value), good and number == 4, (some, rows))
                right += good
        self.assertEqual(right, 2)

    def test_any_value_is_shown_just_if_it_is_right(self):
        house = House(TEXT)
        work = Work(house, "file a by exact\nkeep b by exact of a\nkeep c by loose of b\nkeep d by loose of a")
        told = weak(work, ())
        word, number, some, load = told
        for value in (told, (word, number, House(TEXT), load), (word, number, some, (("A", "Ab", "a"),)), (word, number, some, (("A", "AA", "a"),))):
            self.assertIs(shows_weak(work, (), value), True, value)
        for value in any_values() + [
            list(told), told[:3], told[1:], told + (1,), (told,), ("sound",), (word, True, some, load), (word, number + 1, some, load),
            (word, number - 1, some, load), (word, float(number), some, load), (word, str(number), some, load), (word, None, some, load),
            (word, number, TEXT, load), (word, number, None, load), (word, number, House(DIM), load), (word, number, some, list(load)),
            (word, number, some, load[0]), (word, number, some, load + ((),)), (word, number, some, ()), (word, number, some, ((),)),
            (word, number, some, (("A", "a"),)), (word, number, some, (("A", "Ab", "Ab", "a"),)), (word, number, some, (("a", "ab", "A"),)),
            (word, number, some, (("A", "Aab", "a"),)), (word, number, some, (("A", "Ab", 1),)), (word, number, some, (["A", "Ab", "a"],)),
            ("weak",), ("Weak", number, some, load), (None, number, some, load), ("deceived", some, load),
        ]:
            self.assertIs(shows_weak(work, (), value), False, value)
        sound = Work(house, "file a by exact\nkeep b by exact of a")
        for value in any_values() + [told, ["sound"], "sound", ("sound", 1), ("Sound",), ("sound",), (("sound",),)]:
            self.assertIs(shows_weak(sound, (), value), value == ("sound",), value)

    def test_number_one_and_true(self):
        """The first line that can be deceived is never line 1, but True is not the number of any other line either."""
        house = House(TEXT)
        work = Work(house, "file a by exact\nkeep b by loose of a")
        told = weak(work, ())
        self.assertEqual(told[1], 2)
        self.assertIs(type(told[1]), int)
        self.assertIs(shows_weak(work, (), ("weak", True) + told[2:]), False)

    def test_one_world_and_what_was_seen(self):
        house = House("signs a b\nrule one\n  ranks known\nrule two\n  ranks a b")
        work = Work(house, "file f by one\nkeep g by two of f")
        seen = (("one", ("a", "b")), ("one", ("aa", "b")))
        for many, told, right in ((0, ("weak", 2), "a=b"), (1, ("weak", 2), "a=b"), (2, ("sound",), None)):
            self.assertEqual(weak(work, seen[:many])[:2], told)
            for ranks in ("a b", "b a", "a=b"):
                value = ("weak", 2, House(house.text.replace("known", ranks)), (("a", "b", "a"),))
                self.assertIs(shows_weak(work, seen[:many], value), ranks == right)


class ArgumentsTest(unittest.TestCase):

    def test_arguments_by_name(self):
        house = House(TEXT)
        work = Work(text="file a by exact\nkeep b by loose of a", house=house)
        self.assertEqual(work.promise(name="a"), ("exact", (), ()))
        self.assertEqual(work.tool(name="b"), ("keep", "loose"))
        self.assertEqual(results(files=(("a", "A"),), work=work), (("a", "A"), ("a",)))
        told = weak(seen=(), work=work)
        self.assertEqual(told, weak(work, ()))
        self.assertIs(shows_weak(value=told, seen=(), work=work), True)
        for act, names in ((Work, ["house", "text"]), (results, ["work", "files"]), (weak, ["work", "seen"]),
                           (shows_weak, ["work", "seen", "value"])):
            self.assertEqual(list(inspect.signature(act).parameters), names)
            self.assertEqual(act.__module__, "trustsorted.works")
        for name in ("promise", "tool", "__len__", "__contains__", "__eq__"):
            self.assertIn(name, vars(Work))

    def test_errors_keep_any_value(self):
        for error in (BadWork, NoFile):
            self.assertEqual(error.__bases__, (OrderError,))
            for value in any_values():
                self.assertIs(error(value).value, value)

    def test_each_tool_has_its_files(self):
        house = House(TEXT)
        for word, many in FILES.items():
            rest = {"find": " for a", "cut": " from a to b"}.get(word, "")
            froms = " and ".join(["a"] * many)
            self.assertEqual(Work(house, f"file a by exact\n{word} b by loose of {froms}{rest}").tool("b")[:2], (word, "loose"))


if __name__ == "__main__":
    unittest.main()
