"""Section 11: a desk, what can be said to it, and what it answers."""

import inspect
import random
import unittest

from tests.draws import draw_house
from tests.plain import all_names
from tests.plainworks import draw_work
from tests.test_benches import DIM, JOURNAL, LINES, whole
from tests.test_tools import TEXT, Refusals
from tests.test_works import fitting_seen
from tests.values import any_values, strange_values
from trustsorted.benches import Bench, read_bench
from trustsorted.desk import Desk
from trustsorted.errors import (
    BadHouse, BadLine, BadName, BadSay, BadSeen, Needed, NoLine, NoRule, NothingToRedo, NothingToUndo, OrderError, Unfit
)
from trustsorted.houses import House
from trustsorted.trusting import carries


def answers(desk, *lines):
    return [desk.say(line) for line in lines]


class DeskTest(Refusals):

    def setUp(self):
        self.desk = Desk(DIM)

    def assert_refused(self, error, value, line):
        """Whether a line is refused with an error, and changes nothing."""
        before = whole(self.desk.bench)
        with self.assertRaises(error) as caught:
            self.desk.say(line)
        self.assertIs(type(caught.exception), error)
        self.assertEqual((caught.exception.value, type(caught.exception.value)), (value, type(value)))
        self.assertEqual(whole(self.desk.bench), before)

    def test_a_new_desk(self):
        self.assertIs(type(self.desk.bench), Bench)
        self.assertTrue(self.desk.bench == Bench(House(DIM)))
        self.assertEqual(answers(self.desk, "lines", "weak"), ["0", "sound"])
        for value, number in [(value, 0) for value in strange_values(str)] + [("", 1), ("signs a", 2), ("signs a\nrule r\n  ranks b", 3)]:
            self.assertRaises(BadHouse, Desk, value)
            with self.assertRaises(BadHouse) as caught:
                Desk(value)
            self.assertEqual(caught.exception.value, number)

    def test_lines_of_journals(self):
        for at, line in enumerate(JOURNAL):
            self.assertEqual(self.desk.say(line), "done")
            self.assertEqual(self.desk.bench.journal, JOURNAL[:at + 1])
        self.assertEqual(whole(self.desk.bench)[0][1:], whole(read_bench(House(DIM), JOURNAL))[0][1:])
        self.assertEqual(answers(self.desk, "lines", "undo", "lines", "redo", "undo", "undo", "lines"), ["3", "done", "2", "done", "done", "done", "2"])
        self.assertEqual(self.desk.bench.journal, JOURNAL[:-2])

    def test_the_bench_is_the_same_one(self):
        bench = self.desk.bench
        self.desk.say("add file f by shell")
        bench.add("keep g by cloud of f")
        self.assertIs(self.desk.bench, bench)
        self.assertEqual((bench.lines, self.desk.say("lines")), (LINES[:2], "2"))
        with bench.trial():
            self.desk.say("drop 2")
        self.assertEqual(self.desk.say("lines"), "2")

    def test_weak(self):
        for text, said, told in (
            (TEXT, ["file a by exact", "keep b by exact of a"], ("sound",)),
            ("signs a A b\nnames Aa b?\nrule exact\n  ranks A a b\nrule loose\n  ranks a=A b",
             ["file f by exact", "keep g by loose of f"], ("2: A Ab a", "2: Ab a ab")),
            ("signs a b\nnames a?\nnames b\nrule one\n  ranks a b\nrule two\n  ranks b a",
             ["file f by one", "cut g by two of f from b to b"], ("2: a b",)),
            ("signs a b\nnames ab\nrule one\n  ranks a b\nrule two\n  ranks b a",
             ["file f by one", "cut e by one of f from b to a", "file g by two", "merge h by one of e and g"], ("4: * / b a",)),
            ("signs a b\nnames ab\nrule one\n  ranks a b\nrule two\n  ranks b a",
             ["file f by one", "merge g by two of f and f"], ("2: b / a",)),
            ("signs a b c\nnames a\nnames bc\nrule one\n  ranks a b c\nrule two\n  ranks b=c a",
             ["file f by one", "cut g by one of f from a to b", "cut h by one of f from c to c", "both i by two of g and h"],
             ("4: a b / c",)),
        ):
            desk = Desk(text)
            for line in said:
                self.assertEqual(desk.say("add " + line), "done")
            self.assertIn(desk.say("weak"), told, text)

    def test_rows_without_signs_in_answers(self):
        desk = Desk("signs 1 2\nnames 1?\nnames 2\nrule one\n  ranks 1 2\nrule two\n  ranks 2 1")
        answers(desk, "add file f by one", "add keep g by two of f", "add find h by two of g for 2")
        self.assertEqual(desk.say("weak"), '3: "" 1 2')
        desk = Desk("signs 1\nnames 1?\nrule one\n  ranks 1\nrule two\n  figures 1\nrule odd\n  length")
        answers(desk, "add file f by one", "add keep g by two of f", "add cut h by odd of g from 1 to 1")
        self.assertEqual(desk.say("weak"), "sound")

    def test_weak_is_what_the_bench_tells(self):
        counts = {True: 0, False: 0}
        for seed in range(100):
            drawn = random.Random(seed)
            text = draw_house(drawn, most_signs=3, known=0.4, forms=0.3)
            names = list(all_names(text, 2))
            if not [name for name in names if name]:
                continue
            desk = Desk(text)
            for line in draw_work(drawn, text, 8).split("\n"):
                self.assertEqual(desk.say("add " + line), "done")
            for rule, rows in fitting_seen(drawn, desk.bench.house, names, 2):
                self.assertEqual(desk.say(" ".join(["see", rule] + [row or '""' for row in rows])), "done")
            told, answer = desk.bench.weak(), desk.say("weak")
            counts[told == ("sound",)] += 1
            if told == ("sound",):
                self.assertEqual(answer, "sound")
            else:
                number, files = answer.split(": ")
                load = tuple(
                    tuple("" if row == '""' else row for row in rows.split(" ")) if rows != "*" else () for rows in files.split(" / "))
                self.assertEqual((number, load), (str(told[1]), told[3]))
        self.assertGreater(min(counts.values()), 20)

    def test_order(self):
        desk = self.desk
        self.assertEqual(answers(desk, "order cloud - 1", "order cloud a b", "order shell a A", 'order cloud "" a', 'order cloud a ""', 'order cloud "" ""'),
                         ["alike before behind", "before", "behind", "before", "behind", "alike"])
        desk.say("see cloud a- a1")
        self.assertEqual(desk.say("order cloud - 1"), "alike before")
        for rule in ("nothing", '""', "1", "Cloud"):
            self.assert_refused(NoRule, rule, f"order {rule} a b")
            self.assert_refused(NoRule, rule, f"order {rule} c c")
        for row in ("c", '"', "'", '""a', "a" * 101, "*"):
            self.assert_refused(BadName, row, f"order cloud {row} c")
            self.assert_refused(BadName, row, f"order cloud a {row}")
        self.assertEqual(desk.say("order cloud " + "a" * 100 + " b"), "before")

    def test_trust(self):
        desk = self.desk
        rules = desk.bench.house.rules
        for said in (None, "see cloud a- a1", "see cloud 1 A a", "see cloud - 1"):
            if said:
                desk.say(said)
            for one in rules:
                for other in rules:
                    told = carries(desk.bench.house, desk.bench.seen, one, other)[0]
                    self.assertEqual(desk.say(f"trust {one} {other}"), {"carries": "yes", "not": "no"}[told])
        self.assertEqual(answers(desk, "trust cloud cloud", "trust cloud shell"), ["yes", "no"])
        self.assert_refused(NoRule, "nothing", "trust nothing other")
        self.assert_refused(NoRule, "other", "trust cloud other")
        self.assert_refused(NoRule, '""', 'trust "" cloud')
        open_desk = Desk("signs a b\nrule one\n  ranks known\nrule two\n  ranks a b")
        self.assertEqual(answers(open_desk, "trust one two", "see one a b", "trust one two", "see one aa b", "trust one two"),
                         ["no", "done", "no", "done", "yes"])

    def test_errors_of_the_bench_pass_on(self):
        self.assert_refused(NothingToUndo, None, "undo")
        self.assert_refused(NothingToRedo, None, "redo")
        answers(self.desk, "add file f by shell", "add keep g by shell of f", "see cloud a- a1")
        for line in ("file f by shell", "nothing", "file", '""', "keep x by shell of x", "add file x by shell", "file x by shell and more"):
            self.assert_refused(BadLine, line, "add " + line)
            if line != "file f by shell":
                self.assert_refused(BadLine, line, "put 1 " + line)
        for number in (0, 3, 12, 13, 10 ** 30):
            self.assert_refused(NoLine, number, f"put {number} nothing")
            self.assert_refused(NoLine, number, f"drop {number}")
        self.assert_refused(Needed, 1, "drop 1")
        for rule, rows in (("nothing", ("a", "b")), ("cloud", ("c", "a")), ("cloud", ("a", "a" * 101)), ('""', ("a", "b")), ("cloud", ("", '"'))):
            self.assert_refused(BadSeen, (rule, rows), " ".join(["see", rule] + [row or '""' for row in rows]))
        self.assert_refused(Unfit, self.desk.bench.seen + (("cloud", ("b", "a")),), "see cloud b a")
        self.assert_refused(BadSeen, ("cloud", ("a",) * 41), "see cloud" + " a" * 41)

    def test_lines_that_cannot_be_said(self):
        answers(self.desk, "add file f by shell", "add keep g by shell of f", "see cloud a- a1", "add keep h by shell of f", "undo")
        wrong = strange_values(str) + [
            "", " ", "\n", "add", "add ", "add  file x by shell", "add file  x by shell", "add file x by shell ", " add file x by shell",
            "Add file x by shell", "ADD file x by shell", "addfile x by shell", "add file x by shell\n", "add\nfile x by shell",
            "add file x by shell\nadd file y by shell", "put", "put 1", "put 1 ", "put  1 nothing", "put 01 file x by shell", "put 1  nothing",
            "put -1 nothing", "put +1 nothing", "put x nothing", "put 1.0 nothing", "put 00 nothing", "put 1_0 nothing", "put file x by shell",
            'put "" nothing', "drop", "drop ", "drop 01", "drop 00", "drop -1", "drop x", "drop 1 1", "drop 1 ", "drop  1", "drop 1\n", "drop 1.",
            "drop 1e1", "drop 0x1", "see", "see cloud", "see cloud a", "see cloud a ", "see cloud  a", "see  cloud a b", "see cloud a b ",
            "see cloud a\nb", "undo ", " undo", "undo 1", "undo undo", "Undo", "undo\n", "redo ", "redo 1", "REDO", "weak ", "weak 1", "weaks",
            "lines ", "lines 1", "line", "Lines", "order", "order cloud", "order cloud a", "order cloud a b c", "order cloud a ", "order  cloud a b",
            "order cloud a  b", "order cloud a b ", "order cloud a\nb", "trust", "trust cloud", "trust cloud shell loose", "trust cloud ",
            "trust  cloud shell", "trust cloud shell ", "trust cloud\nshell", "Trust cloud shell", "nothing", "done", "sound", "0", '""', "file x by shell",
            "undo\nundo", "weak\n", "lines\n", "say lines", "keep", "copy",
        ]
        for value in wrong:
            self.assert_refused(BadSay, value, value)

    def test_each_form_with_one_word_out_or_in(self):
        """Lines with a word more or less have mostly no form; others are refused by the bench or are right."""
        forms = {"put": 3, "add": 2, "see": 4}
        for line in ("add file x by shell", "put 1 file f by loose", "drop 1", "see cloud a b", "undo", "redo", "weak", "lines",
                     "order cloud a b", "trust cloud shell"):
            words = line.split(" ")
            for at in range(len(words) + 1):
                for told in [words[:at] + words[at + 1:], words[:at] + ["a"] + words[at:], words[:at] + [""] + words[at:]]:
                    desk, said = Desk(DIM), " ".join(told)
                    desk.say("add file f by shell")
                    least = forms.get(told[0] if told else "", len(words))
                    is_form = bool(told) and "" not in told and told[0] == words[0] and len(told) >= least
                    is_form = is_form and (told[0] in forms or len(told) == len(words))
                    if is_form and told[0] in ("put", "drop"):
                        is_form = told[1].isdigit()
                    try:
                        self.assertIs(type(desk.say(said)), str)
                        self.assertTrue(is_form, said)
                    except BadSay as error:
                        self.assertEqual((error.value, is_form), (said, False))
                    except OrderError:
                        self.assertTrue(is_form, said)

    def test_numbers(self):
        desk = self.desk
        for at in range(12):
            desk.say("add file " + "abcdefghijkl"[at] + " by shell")
        self.assertEqual(answers(desk, "put 12 file z by shell", "put 10 file y by cloud", "drop 10", "lines"), ["done", "done", "done", "11"])
        self.assertEqual(desk.bench.lines[-1], "file z by shell")
        self.assertEqual(desk.bench.journal[-3:], ("put 12 file z by shell", "put 10 file y by cloud", "drop 10"))

    def test_arguments_by_name(self):
        desk = Desk(text=DIM)
        self.assertEqual(desk.say(line="lines"), "0")
        self.assertEqual(list(inspect.signature(Desk).parameters), ["text"])
        self.assertEqual(list(inspect.signature(desk.say).parameters), ["line"])
        self.assertIn("say", vars(Desk))
        self.assertEqual(Desk.__module__, "trustsorted.desk")
        self.assertEqual(BadSay.__bases__, (OrderError,))
        for value in any_values():
            self.assertIs(BadSay(value).value, value)


if __name__ == "__main__":
    unittest.main()
