"""Section 10: benches, their deeds, journals and trials."""

import inspect
import random
import unittest

from tests.draws import draw_house
from tests.plain import all_names, fitting_rules
from tests.plainworks import PlainBench, draw_line
from tests.test_tools import TEXT, Refusals
from tests.values import any_values, strange_values
from trustsorted import errors
from trustsorted.benches import Bench, read_bench
from trustsorted.errors import (
    BadJournal, BadLine, BadName, BadSeen, Needed, NoLine, NoRule, NoTrial, NothingToRedo, NothingToUndo, OrderError, Unfit
)
from trustsorted.houses import House
from trustsorted.seeing import possible
from trustsorted.works import Work, weak

DIM = "signs a b A 1 -\nrule shell\n  ranks - 1 A a b\nrule cloud\n  ranks known a<b\n  length\nrule loose\n  ranks 1 - a=A b"

LINES = ("file f by shell", "keep g by cloud of f", "sort h by loose of g", "find i by loose of h for a1")

JOURNAL = (
    "add file f by shell", "add keep g by cloud of f", "see cloud a- a1", 'see cloud "" a b', "put 2 keep h by loose of f", "drop 2",
    "add cut j by cloud of f from a to b", "put 1 file f by cloud", "add find k by loose of j for a-1",
)


def state(bench):
    """All that can be seen of a bench."""
    return (bench.house, bench.lines, bench.seen, bench.done, bench.journal, None if bench.work is None else bench.work.text, len(bench))


def undone(bench):
    """(states back to the first one, states on to the last one) as undo and redo tell them; the bench is as it was ahead."""
    start, back, on = bench.done, [], []
    while bench.done:
        bench.undo()
        back.append(state(bench))
    while True:
        try:
            bench.redo()
        except NothingToRedo:
            break
        on.append(state(bench))
    while bench.done > start:
        bench.undo()
    return back, on[start:]


def whole(bench):
    """All that can be seen of a bench, and what can be undone and done again."""
    return state(bench), undone(bench)


class Stop(Exception):
    """An error that leaves a block."""


class Benches(Refusals):

    def setUp(self):
        self.house = House(DIM)
        self.bench = Bench(self.house)

    def fill(self, bench=None):
        """A bench with lines, listings, and deeds that were undone."""
        bench = Bench(self.house) if bench is None else bench
        for line in LINES:
            bench.add(line)
        bench.see("cloud", ("a-", "a1"))
        bench.put(3, "cut h by shell of g from A to a")
        bench.undo()
        bench.drop(4)
        bench.add("keep j by shell of h")
        bench.undo()
        return bench

    def assert_refused(self, error, value, act, *args):
        """Whether a call raises an error, and changes nothing of the bench."""
        before = whole(self.bench)
        with self.assertRaises(error) as caught:
            act(*args)
        self.assertIs(type(caught.exception), error)
        self.assertEqual((caught.exception.value, type(caught.exception.value)), (value, type(value)))
        self.assertEqual(whole(self.bench), before)


class DeedsTest(Benches):

    def test_a_new_bench(self):
        bench = self.bench
        self.assertIs(bench.house, self.house)
        self.assertEqual((bench.lines, bench.seen, bench.done, bench.work, bench.journal), ((), (), 0, None, ()))
        self.assertEqual((len(bench), bench.weak()), (0, ("sound",)))
        self.assertIs(type(bench.done), int)

    def test_each_deed(self):
        bench = self.bench
        self.assertIsNone(bench.add(LINES[0]))
        self.assertIsNone(bench.add(LINES[1]))
        self.assertEqual((bench.lines, bench.done, len(bench)), (LINES[:2], 2, 2))
        self.assertTrue(bench.work == Work(self.house, "\n".join(LINES[:2])))
        self.assertIsNone(bench.put(2, "keep g by loose of f"))
        self.assertEqual(bench.lines, (LINES[0], "keep g by loose of f"))
        self.assertIsNone(bench.see("cloud", ("a-", "a1", "")[:2]))
        self.assertEqual(bench.seen, (("cloud", ("a-", "a1")),))
        self.assertIsNone(bench.drop(2))
        self.assertEqual((bench.lines, bench.done, bench.work.names), (LINES[:1], 5, ("f",)))
        self.assertIsNone(bench.drop(1))
        self.assertEqual((bench.lines, bench.work, bench.weak()), ((), None, ("sound",)))
        self.assertEqual(bench.journal, (
            "add file f by shell", "add keep g by cloud of f", "put 2 keep g by loose of f", "see cloud a- a1", "drop 2", "drop 1"))

    def test_put_can_put_the_same_line(self):
        bench = self.fill()
        lines = bench.lines
        bench.put(1, LINES[0])
        self.assertEqual((bench.lines, bench.journal[-1]), (lines, "put 1 file f by shell"))

    def test_signs(self):
        bench = held = self.bench
        bench += LINES[0]
        bench += LINES[1]
        bench[2] = "keep g by loose of f"
        bench[1] = "file f by cloud"
        bench += "keep h by loose of g"
        bench -= 3
        self.assertIs(bench, held)
        self.assertEqual(bench.journal, (
            "add file f by shell", "add keep g by cloud of f", "put 2 keep g by loose of f", "put 1 file f by cloud", "add keep h by loose of g",
            "drop 3"))
        self.assertEqual((bench[1], bench[2]), ("file f by cloud", "keep g by loose of f"))

    def test_signs_that_are_refused(self):
        def iadd(value):
            self.bench += value

        def isub(value):
            self.bench -= value

        def setitem(at, value):
            self.bench[at] = value

        held = self.fill(self.bench)
        for value in strange_values(str) + ["", "nothing", LINES[0], "file x by shell\nfile y by shell", "file x by shell\n"]:
            self.assert_refused(BadLine, value, iadd, value)
            self.assert_refused(BadLine, value, setitem, 2, value)
        for value in [value for value in any_values() if value not in (1,) or isinstance(value, bool)] + [4]:
            self.assert_refused(NoLine, value, isub, value)
            self.assert_refused(NoLine, value, setitem, value, LINES[0])
            self.assert_refused(NoLine, value, lambda: self.bench[value])
        self.assert_refused(Needed, 1, isub, 1)
        self.assertIs(self.bench, held)

    def test_lines_that_cannot_be_added(self):
        self.fill(self.bench)
        for value in strange_values(str) + [
            "", " ", "file", "file x", "file x by nothing", "file f by shell", "file x by shell ", " file x by shell", "file x by shell\n",
            "\nfile x by shell", "file x by shell\nfile y by shell", "keep x by loose of i", "keep x by loose of nothing", "\n", "keep x by loose of x",
            "find x by loose of f for", 'find x by loose of f for ""', "find x by loose of f for " + "a" * 21, "File x by shell",
        ]:
            self.assert_refused(BadLine, value, self.bench.add, value)
        self.bench.add("find x by loose of f for " + "a" * 20)

    def test_a_thirteenth_line(self):
        for letter in "abcdefghijkl":
            self.bench.add(f"file {letter} by shell")
        self.assert_refused(BadLine, "file m by shell", self.bench.add, "file m by shell")
        self.bench.put(12, "file m by shell")
        self.assertEqual(len(self.bench), 12)

    def test_a_fifth_cut(self):
        self.bench.add("file f by shell")
        for old, new, low in (("f", "g", "a"), ("g", "h", "b"), ("h", "i", "A"), ("i", "j", "1")):
            self.bench.add(f"cut {new} by shell of {old} from {low} to b")
        self.bench.add("cut k by shell of j from a to b")
        self.assert_refused(BadLine, "cut l by shell of k from a to a", self.bench.add, "cut l by shell of k from a to a")
        self.assert_refused(BadLine, "cut k by loose of j from a to b", self.bench.put, 6, "cut k by loose of j from a to b")

    def test_lines_that_cannot_be_put(self):
        self.fill(self.bench)
        for value in any_values() + [4, "1", 1.5, (2,)]:
            if isinstance(value, bool) or value != 1:
                self.assert_refused(NoLine, value, self.bench.put, value, "nothing")
                self.assert_refused(NoLine, value, self.bench.put, value, LINES[0])
        for number in (1, 2, 3):
            for value in strange_values(str) + ["", "nothing", "file x by shell\n", "file x by shell\nfile y by shell", "keep x by loose of x"]:
                self.assert_refused(BadLine, value, self.bench.put, number, value)
        self.assert_refused(BadLine, "file x by shell", self.bench.put, 1, "file x by shell")
        self.assert_refused(BadLine, "find g by loose of f for a", self.bench.put, 2, "find g by loose of f for a")
        self.assert_refused(BadLine, "file f by loose", self.bench.put, 3, "file f by loose")
        self.bench.put(3, "find x by loose of f for a")
        self.assertEqual(self.bench.lines, LINES[:2] + ("find x by loose of f for a",))

    def test_lines_that_cannot_go(self):
        self.fill(self.bench)
        for value in any_values() + [4, "1", 1.5]:
            if isinstance(value, bool) or value != 1:
                self.assert_refused(NoLine, value, self.bench.drop, value)
        self.assert_refused(Needed, 1, self.bench.drop, 1)
        self.assert_refused(Needed, 2, self.bench.drop, 2)
        for number in (3, 2, 1):
            self.bench.drop(number)
        self.assertEqual(self.bench.lines, ())
        for value in (0, 1, -1):
            self.assert_refused(NoLine, value, self.bench.drop, value)
            self.assert_refused(NoLine, value, self.bench.put, value, LINES[0])

    def test_listings_that_are_none(self):
        for value in strange_values():
            self.assert_refused(BadSeen, (value, ("a", "b")), self.bench.see, value, ("a", "b"))
            self.assert_refused(BadSeen, ("cloud", value), self.bench.see, "cloud", value)
        for rule, rows in (
            ("nothing", ("a", "b")), ("cloud", ("a",)), ("cloud", ()), ("cloud", ["a", "b"]), ("cloud", ("a", "c")), ("cloud", ("a", 1)),
            ("cloud", ("a",) * 41), ("cloud", ("a", "a" * 101)), ("cloud", "ab"), ("Cloud", ("a", "b")), ("cloud", ("a", '""')), ("cloud", (("a", "b"),)),
            ("cloud", ("b", "c", "a")),
        ):
            self.assert_refused(BadSeen, (rule, rows), self.bench.see, rule, rows)
        for rows in (("a",) * 40, ("a" * 100, "b"), ("", ""), ("", "a")):
            self.bench.see("cloud", rows)

    def test_listings_that_no_world_fits(self):
        self.bench.see("cloud", ("a-", "a1"))
        for rule, rows in (("cloud", ("b", "a")), ("shell", ("a", "A")), ("cloud", ("1", "-")), ("cloud", ("a", "b", "a"))):
            listings = self.bench.seen + ((rule, rows),)
            if rows == ("1", "-"):
                self.bench.see(rule, rows)
                self.bench.undo()
            else:
                self.assert_refused(Unfit, listings, self.bench.see, rule, rows)
        self.bench.see("cloud", ("1", "-"))
        listings = self.bench.seen + (("cloud", ("-", "1", "11", "-")),)
        self.assert_refused(Unfit, listings, self.bench.see, "cloud", ("-", "1", "11", "-"))

    def test_eight_listings(self):
        for at in range(8):
            self.bench.see("cloud", ("a", "b"))
        for rule, rows in (("cloud", ("a", "b")), ("cloud", ("b", "a")), ("nothing", 1)):
            self.assert_refused(BadSeen, (rule, rows), self.bench.see, rule, rows)
        self.bench.undo()
        self.bench.see("cloud", ("a", "b"))
        self.assertEqual(len(self.bench.seen), 8)

    def test_undo_and_redo(self):
        bench = self.bench
        self.assert_refused(NothingToUndo, None, bench.undo)
        self.assert_refused(NothingToRedo, None, bench.redo)
        states = [state(bench)]
        for line in LINES:
            bench.add(line)
            states.append(state(bench))
        bench.see("cloud", ("a", "b"))
        states.append(state(bench))
        self.assert_refused(NothingToRedo, None, bench.redo)
        for told in states[-2::-1]:
            self.assertIsNone(bench.undo())
            self.assertEqual(state(bench), told)
        self.assert_refused(NothingToUndo, None, bench.undo)
        for told in states[1:]:
            self.assertIsNone(bench.redo())
            self.assertEqual(state(bench), told)
        self.assert_refused(NothingToRedo, None, bench.redo)

    def test_another_deed_ends_what_can_be_done_again(self):
        bench = self.bench
        bench.add(LINES[0])
        bench.add(LINES[1])
        bench.undo()
        self.assert_refused(BadLine, "nothing", bench.add, "nothing")
        bench.redo()
        bench.undo()
        bench.see("cloud", ("a", "b"))
        self.assert_refused(NothingToRedo, None, bench.redo)
        bench.undo()
        bench.redo()
        self.assertEqual(bench.journal, ("add file f by shell", "see cloud a b"))

    def test_beside_a_plain_row_of_deeds(self):
        counts = {}
        for seed in range(200):
            drawn = random.Random(seed)
            text = draw_house(drawn, most_signs=3, known=0.5, forms=0.3)
            names = list(all_names(text, 2))
            if not [name for name in names if name]:
                continue
            self.go_through(drawn, text, names, counts)
        for word in ("add", "put", "drop", "see", "undo", "redo"):
            self.assertGreater(counts[word, True], 40, word)
        for refusal in (("add", "BadLine"), ("put", "BadLine"), ("put", "NoLine"), ("drop", "NoLine"), ("drop", "Needed"), ("see", "BadSeen"),
                        ("see", "Unfit"), ("undo", "NothingToUndo"), ("redo", "NothingToRedo")):
            self.assertGreater(counts[refusal], 10, refusal)

    def go_through(self, drawn, text, names, counts):
        """Do some deeds on a bench and on a plain one, and hold both beside one another."""
        bench, house = Bench(House(text)), House(text)
        plain = PlainBench(text, lambda seen: all(fitting_rules(text, seen).values()))
        for _ in range(40):
            deed = self.draw_deed(drawn, bench.lines, house.rules, names)
            told = getattr(plain, deed[0])(*deed[1:])
            if told is True:
                self.assertIsNone(getattr(bench, deed[0])(*deed[1:]))
            else:
                self.assertRaises(getattr(errors, told), getattr(bench, deed[0]), *deed[1:])
            counts[deed[0], told] = counts.get((deed[0], told), 0) + 1
            self.assertEqual((bench.lines, bench.seen), plain.now())
            self.assertEqual((bench.journal, bench.done), (plain.journal(), plain.at))
            self.assertEqual(bench.work is None, not bench.lines)
            if bench.lines:
                self.assertEqual(bench.work.text, "\n".join(bench.lines))
        again = read_bench(house, bench.journal)
        self.assertEqual(state(again)[1:], state(bench)[1:])

    def draw_deed(self, drawn, lines, rules, names):
        word = drawn.choice(["add", "add", "add", "put", "put", "drop", "see", "undo", "undo", "redo", "redo"])
        if word in ("undo", "redo"):
            return (word,)
        number = drawn.randint(0, len(lines) + 1)
        if word == "drop":
            return (word, number)
        if word == "see":
            rows = tuple(drawn.choice(names) for _ in range(drawn.choice([1, 2, 2, 3])))
            return (word, drawn.choice(rules + ("nothing",)), rows)
        files = ["x"] + [line.split(" ")[1] for line in lines]
        kind = drawn.choice(["file", "file", "sort", "keep", "cut", "merge", "both", "only", "find"])
        line = draw_line(drawn, kind, drawn.choice("pqrstuvw"), rules, files, names)
        if drawn.random() < 0.1:
            line = drawn.choice([line + " ", line + "\n" + line, "", line.replace(" by ", " of ")])
        return (word, line) if word == "add" else (word, number, line)


class TellingTest(Benches):

    def test_weak_is_what_weak_tells(self):
        bench = self.bench
        for line in LINES:
            bench.add(line)
            self.assertEqual(bench.weak(), weak(Work(self.house, "\n".join(bench.lines)), ()))
        self.assertEqual(bench.weak()[:2], ("weak", 2))
        for rows in (("-", "1"), ("1", "A"), ("A", "a"), ("11", "A"), ("--", "1"), ("AA", "a")):
            bench.see("cloud", rows)
            self.assertEqual(bench.weak(), weak(bench.work, bench.seen))
        self.assertEqual(bench.weak(), ("sound",))
        bench.undo()
        self.assertEqual(bench.weak()[:2], ("weak", 2))

    def test_possible(self):
        bench = self.bench
        for rows in (None, ("a-", "a1"), ("1", "-")):
            if rows:
                bench.see("cloud", rows)
            for one, other in (("-", "1"), ("a", "b"), ("A", "1"), ("", "a"), ("11", "-"), ("a" * 100, "A")):
                told = bench.possible("cloud", one, other)
                self.assertEqual(told, tuple(word for word, some in possible(self.house, bench.seen, "cloud", one, other)))
                self.assertIs(type(told), tuple)
        self.assertEqual(bench.possible("cloud", "-", "1"), ("alike",))
        for value in any_values():
            self.assert_refused(NoRule, value, bench.possible, value, 1, 2)
            if value not in ("a", ""):
                self.assert_refused(BadName, value, bench.possible, "cloud", value, 2)
                self.assert_refused(BadName, value, bench.possible, "cloud", "a", value)
        self.assert_refused(BadName, "a" * 101, bench.possible, "cloud", "a" * 101, "c")

    def test_live(self):
        """What a bench tells holds also behind deeds that were undone and trials that were not kept."""
        bench = self.fill()
        for _ in range(3):
            told = bench.weak(), bench.possible("cloud", "-", "1"), bench.work.text
            with bench.trial():
                bench.see("cloud", ("1", "-"))
                bench.drop(len(bench))
                self.assertNotEqual((bench.weak(), bench.possible("cloud", "-", "1"), bench.work.text), told)
                self.assertEqual(bench.weak(), weak(bench.work, bench.seen))
            self.assertEqual((bench.weak(), bench.possible("cloud", "-", "1"), bench.work.text), told)
            bench.undo()
            self.assertEqual(bench.weak(), weak(bench.work, bench.seen))

    def test_lines_by_number(self):
        bench = self.fill()
        self.assertEqual([bench[number] for number in (1, 2, 3)], list(LINES[:3]))
        self.bench = bench
        for value in any_values() + [4, "1", 1.5, 1.0, (1,)]:
            if isinstance(value, (bool, float)) or value != 1:
                self.assert_refused(NoLine, value, lambda: bench[value])
        for value in any_values():
            self.assert_refused(NoLine, value, lambda: Bench(self.house)[value])

    def test_benches_cannot_be_gone_over(self):
        bench = self.fill()
        for act in (iter, list, tuple, set, sorted, dict, lambda held: [*held], lambda held: "file f by shell" in held, lambda held: None in held,
                    lambda held: [line for line in held], sum, max, lambda held: dict(held), enumerate, zip, all, any):
            self.assertRaises(TypeError, act, bench)
            self.assertRaises(TypeError, act, Bench(self.house))

    def test_other_operators(self):
        bench = self.fill()
        before = whole(bench)
        for value in any_values() + [bench, LINES[0]]:
            for act in (lambda: bench + value, lambda: bench - value, lambda: bench < value, lambda: bench >= value, lambda: bench & value,
                        lambda: bench | value, lambda: bench * value):
                self.assertRaises(TypeError, act)
        with self.assertRaises(TypeError):
            bench *= 2
        with self.assertRaises(TypeError):
            bench |= "file x by shell"
        self.assertEqual(whole(bench), before)

    def test_equal_benches(self):
        bench = self.fill()
        other = Bench(House(DIM))
        self.assertFalse(bench == other)
        other.see("cloud", ("a-", "a1"))
        for line in LINES[:3]:
            self.assertTrue(bench != other)
            other.add(line)
        self.assertTrue(bench == other)
        self.assertFalse(bench != other)
        self.assertNotEqual(bench.journal, other.journal)
        other.see("cloud", ("a", "b"))
        self.assertFalse(bench == other)
        self.assertFalse(Bench(House(DIM)) == Bench(House(TEXT)))
        self.assertTrue(Bench(House(DIM)) == Bench(House(DIM)))
        for value in any_values() + [bench.work, bench.lines, self.house, bench.journal]:
            self.assertIs(bench == value, False)
            self.assertIs(value == bench, False)
            self.assertIs(bench != value, True)


class JournalTest(Benches):

    def test_journals_that_are_read_back(self):
        bench = read_bench(self.house, JOURNAL)
        self.assertIs(type(bench), Bench)
        self.assertEqual(bench.journal, JOURNAL)
        self.assertEqual(bench.done, len(JOURNAL))
        self.assertEqual(bench.lines, ("file f by cloud", "cut j by cloud of f from a to b", "find k by loose of j for a-1"))
        self.assertEqual(bench.seen, (("cloud", ("a-", "a1")), ("cloud", ("", "a", "b"))))
        self.assertRaises(NothingToRedo, bench.redo)

    def test_each_beginning(self):
        for many in range(len(JOURNAL) + 1):
            bench = read_bench(self.house, JOURNAL[:many])
            self.assertEqual((bench.journal, bench.done), (JOURNAL[:many], many))
            again = read_bench(self.house, bench.journal)
            self.assertTrue(again == bench)
            self.assertEqual(whole(again), whole(bench))
            self.assertRaises(NothingToRedo, bench.redo)
        whole_one = read_bench(self.house, JOURNAL)
        for many in range(len(JOURNAL) - 1, -1, -1):
            whole_one.undo()
            self.assertEqual(state(whole_one), state(read_bench(self.house, JOURNAL[:many])))

    def test_journals_tell_but_of_deeds_that_stand(self):
        bench = self.fill()
        self.assertEqual(bench.journal, tuple("add " + line for line in LINES) + ("see cloud a- a1", "drop 4"))
        bench.redo()
        self.assertEqual(bench.journal[-1], "add keep j by shell of h")
        again = read_bench(self.house, bench.journal)
        self.assertEqual(state(again), state(bench))

    def test_values_that_are_no_journal(self):
        for value in strange_values(tuple) + [list(JOURNAL), "add file f by shell", "\n".join(JOURNAL), {line: 1 for line in JOURNAL}]:
            with self.assertRaises(BadJournal) as caught:
                read_bench(self.house, value)
            self.assertEqual((caught.exception.value, type(caught.exception.value)), (0, int))
        self.assertEqual(read_bench(self.house, ()).done, 0)

    def assert_wrong(self, lines, number):
        with self.assertRaises(BadJournal) as caught:
            read_bench(self.house, lines)
        self.assertEqual(caught.exception.value, number, lines)

    def test_lines_that_are_wrong_in_one_part(self):
        for at, line in enumerate(JOURNAL):
            words = line.split(" ")
            wrong = [" " + line, line + " ", line + "\n", "\n" + line, line.replace(" ", "  ", 1), line.upper(), "", words[0], words[0] + " "]
            wrong += [" ".join(words[1:]), "do " + line, line.replace(words[0], words[0] + "s", 1), line.replace(words[1], "nothing", 1)]
            wrong += [line + " a b" if words[0] != "see" else line.replace("cloud", "see"), line.replace(words[0], "undo", 1), "undo", "weak", "lines"]
            if words[0] == "add":
                wrong += [line.replace("add", "put 1", 1), line + "\nadd file y by shell", "add  " + line[4:], "add"]
            if words[0] in ("put", "drop"):
                rest = " ".join(words[2:])
                wrong += [" ".join([words[0], number] + words[2:]) for number in (
                    "0", "01", "02", "-1", "13", "x", "+1", "1.0", "", '""', "1_0", "9" * 50, "True", "None")]
                wrong += [f"{words[0]} {rest}", f"{words[0]} {words[1]} 1"]
            if words[0] == "see":
                wrong += ["see cloud", "see cloud a", "see", "see cloud ", "see cloud a ", "see cloud  a", "see cloud a  b", "see cloud b a",
                          "see cloud a c", "see nothing a b", 'see cloud a "', "see cloud a ''", "see cloud a " + "a" * 101, "see cloud" + " a" * 41]
            for told in wrong:
                for rest in (JOURNAL[at + 1:], (), (1,), ("nothing",)):
                    self.assert_wrong(JOURNAL[:at] + (told,) + rest, at + 1)

    def test_lines_that_are_no_strings(self):
        for value in strange_values(str):
            self.assert_wrong((value,), 1)
            self.assert_wrong(JOURNAL[:2] + (value,), 3)
            self.assert_wrong(JOURNAL + (value, "nothing"), len(JOURNAL) + 1)

    def test_lines_that_are_refused(self):
        for lines, number in (
            (("add file f by shell", "add file f by shell"), 2), (("drop 1",), 1), (("add file f by shell", "drop 1", "drop 1"), 3),
            (("add file f by shell", "add keep g by shell of f", "drop 1"), 3), (("put 1 file f by shell",), 1),
            (("see cloud b a",), 1), (("see cloud a b",) * 9, 9), (("see cloud - 1", "see cloud 1 -", "see cloud - 1 11 -"), 3),
            (tuple(f"add file {letter} by shell" for letter in "abcdefghijklm"), 13), (("add nothing",), 1),
        ):
            self.assert_wrong(lines, number)
        self.assertEqual(len(read_bench(self.house, ("see cloud a b",) * 8).seen), 8)

    def test_rows_in_journals(self):
        bench = self.bench
        bench.see("cloud", ("", "", "a"))
        bench.see("shell", ("-", "1", "A"))
        bench.see("cloud", ("a",) * 40)
        self.assertEqual(bench.journal, ('see cloud "" "" a', "see shell - 1 A", "see cloud " + " ".join("a" * 40)))
        self.assertEqual(state(read_bench(self.house, bench.journal)), state(bench))


class TrialTest(Benches):

    def deeds(self, bench):
        """Deeds of all kinds, also some that are undone and one that is refused."""
        bench.undo()
        bench.add("file x by loose")
        bench.put(1, "file f by cloud")
        self.assertRaises(BadLine, bench.add, "nothing")
        bench.see("cloud", ("1", "-"))
        bench.drop(len(bench))
        bench.undo()
        bench -= len(bench)
        bench.undo()

    def test_blocks_that_are_not_kept(self):
        bench = self.fill()
        before = whole(bench)
        with bench.trial() as held:
            self.assertIs(held, bench)
            self.assertEqual(whole(bench), before)
            self.deeds(bench)
            self.assertNotEqual(state(bench), before[0])
        self.assertEqual(whole(bench), before)
        bench.redo()

    def test_blocks_in_which_all_is_undone(self):
        bench = self.fill()
        before = whole(bench)
        with bench.trial():
            while bench.done:
                bench.undo()
            bench.see("cloud", ("a", "b"))
        self.assertEqual(whole(bench), before)
        with bench.trial():
            bench.redo()
        self.assertEqual(whole(bench), before)

    def test_blocks_that_are_kept(self):
        bench, other = self.fill(), self.fill()
        self.deeds(other)
        with bench.trial():
            self.deeds(bench)
            self.assertIsNone(bench.keep())
        self.assertEqual(whole(bench), whole(other))

    def test_deeds_behind_keep_are_kept_too(self):
        bench, other = self.fill(), self.fill()
        with bench.trial():
            bench.keep()
            self.deeds(bench)
            bench.keep()
        self.deeds(other)
        self.assertEqual(whole(bench), whole(other))

    def test_blocks_that_an_error_leaves(self):
        for keeps in (False, True):
            bench = self.fill()
            before = whole(bench)
            with self.assertRaises(Stop):
                with bench.trial():
                    self.deeds(bench)
                    if keeps:
                        bench.keep()
                    raise Stop
            self.assertEqual(whole(bench), before)
            with self.assertRaises(BadLine):
                with bench.trial():
                    self.deeds(bench)
                    if keeps:
                        bench.keep()
                    bench.add("nothing")
            self.assertEqual(whole(bench), before)
            self.assertRaises(NoTrial, bench.keep)

    def test_blocks_that_are_left_in_other_ways(self):
        bench = self.fill()
        before = whole(bench)

        def returned(keeps):
            with bench.trial():
                bench.add("file x by loose")
                if keeps:
                    bench.keep()
                return len(bench)

        def going():
            with bench.trial():
                bench.add("file x by loose")
                yield 1

        self.assertEqual(returned(False), 4)
        for _ in range(2):
            with bench.trial():
                bench.add("file x by loose")
                continue
        for _ in range(2):
            with bench.trial():
                bench.add("file x by loose")
                break
        steps = going()
        next(steps)
        self.assertEqual(len(bench), 4)
        steps.close()
        self.assertEqual(whole(bench), before)
        self.assertEqual(returned(True), 4)
        self.assertEqual(len(bench), 4)

    def test_errors_that_do_not_leave_the_block(self):
        bench = self.fill()
        with bench.trial():
            bench.add("file x by loose")
            try:
                bench.add("nothing")
            except BadLine:
                bench.keep()
        self.assertEqual(len(bench), 4)

    def test_keep_outside_of_all_blocks(self):
        self.assert_refused(NoTrial, None, self.bench.keep)
        with self.bench.trial():
            self.bench.keep()
        self.assert_refused(NoTrial, None, self.bench.keep)
        self.bench.trial()
        self.assert_refused(NoTrial, None, self.bench.keep)

    def test_blocks_in_blocks(self):
        for outer in (False, True):
            for inner in (False, True):
                for last in (False, True):
                    bench = Bench(self.house)
                    bench.add(LINES[0])
                    with bench.trial():
                        bench.add(LINES[1])
                        with bench.trial():
                            bench.add("file x by loose")
                            with bench.trial():
                                bench.add("file y by loose")
                                if last:
                                    bench.keep()
                            if inner:
                                bench.keep()
                        told = LINES[:2] + (("file x by loose",) + ("file y by loose",) * last) * inner
                        self.assertEqual(bench.lines, told)
                        if outer:
                            bench.keep()
                    self.assertEqual(bench.lines, told if outer else LINES[:1])
                    self.assertRaises(NoTrial, bench.keep)

    def test_keep_is_for_the_innermost_block(self):
        bench = Bench(self.house)
        with bench.trial():
            bench.add(LINES[0])
            with bench.trial():
                bench.add(LINES[1])
                bench.keep()
            self.assertEqual(bench.lines, LINES[:2])
        self.assertEqual((bench.lines, bench.done), ((), 0))
        with bench.trial():
            bench.add(LINES[0])
            bench.keep()
            with bench.trial():
                bench.add(LINES[1])
        self.assertEqual(bench.lines, LINES[:1])

    def test_errors_that_leave_several_blocks(self):
        bench = self.fill()
        before = whole(bench)
        with self.assertRaises(Stop):
            with bench.trial():
                bench.add("file x by loose")
                bench.keep()
                with bench.trial():
                    bench.add("file y by loose")
                    bench.keep()
                    raise Stop
        self.assertEqual(whole(bench), before)
        with bench.trial():
            bench.add("file x by loose")
            with self.assertRaises(Stop):
                with bench.trial():
                    bench.add("file y by loose")
                    bench.keep()
                    raise Stop
            self.assertEqual(len(bench), 4)
            bench.keep()
        self.assertEqual(len(bench), 4)

    def test_a_block_begins_where_it_is_entered(self):
        bench = Bench(self.house)
        block = bench.trial()
        bench.add(LINES[0])
        with block as held:
            self.assertIs(held, bench)
            bench.add(LINES[1])
        self.assertEqual(bench.lines, LINES[:1])
        with block:
            bench.add(LINES[1])
            bench.keep()
        with block:
            bench.add(LINES[2])
        self.assertEqual(bench.lines, LINES[:2])

    def test_blocks_of_several_benches(self):
        bench, other = self.fill(), self.fill()
        with bench.trial(), other.trial():
            bench.add("file x by loose")
            other.add("file x by loose")
            other.keep()
        self.assertEqual((len(bench), len(other)), (3, 4))

    def test_what_is_done_again_behind_a_block(self):
        bench = self.fill()
        with bench.trial():
            bench.add("file x by loose")
        bench.redo()
        self.assertEqual(bench.lines[-1], "keep j by shell of h")
        with bench.trial():
            bench.undo()
            bench.undo()
            bench.keep()
        bench.redo()
        bench.redo()
        self.assertEqual(bench.lines[-1], "keep j by shell of h")

    def test_tried(self):
        bench = self.fill()
        before = whole(bench)
        self.assertEqual(bench.tried(lambda held: (held is bench, held.add("file x by loose"), len(held))), (True, None, 4))
        self.assertEqual(whole(bench), before)
        for value in any_values() + [1, "True", (True,), [True]]:
            if value is not True:
                self.assertEqual(bench.tried(lambda held: [held.add("file x by loose"), len(held)], keep=value), [None, 4])
                self.assertEqual(whole(bench), before)
        self.assertIs(bench.tried(lambda held: held.add("file x by loose"), keep=True), None)
        self.assertEqual(bench.lines[-1], "file x by loose")
        self.assertRaises(NoTrial, bench.keep)
        for value in any_values():
            self.assertIs(bench.tried(lambda held: value), value)

    def test_tried_with_keep_within(self):
        bench = self.fill()

        def look(held):
            held.add("file x by loose")
            held.keep()
            return 1

        self.assertEqual(bench.tried(look), 1)
        self.assertEqual(len(bench), 4)
        with bench.trial():
            bench.undo()
            self.assertEqual(bench.tried(look, keep=True), 1)
            self.assertEqual(len(bench), 4)
        self.assertEqual(len(bench), 4)

    def test_errors_pass_on(self):
        bench = self.fill()
        before = whole(bench)

        def look(held):
            held.add("file x by loose")
            held.keep()
            raise Stop

        for keeps in (False, True):
            self.assertRaises(Stop, bench.tried, look, keep=keeps)
            self.assertRaises(BadLine, bench.tried, lambda held: held.add("nothing"), keep=keeps)
            self.assertEqual(whole(bench), before)
        self.assertRaises(TypeError, bench.tried, look, True)
        self.assertRaises(NoTrial, bench.keep)

    def test_tried_in_tried(self):
        bench = self.fill()
        told = bench.tried(lambda held: (held.tried(lambda same: same.add("file x by loose"), keep=True), len(held)))
        self.assertEqual((told, len(bench)), ((None, 4), 3))
        told = bench.tried(lambda held: (held.tried(lambda same: same.add("file x by loose")), len(held)), keep=True)
        self.assertEqual((told, len(bench)), ((None, 3), 3))

    def test_beside_plain_snapshots(self):
        kept = 0
        for seed in range(150):
            drawn = random.Random(seed)
            bench = self.fill()
            kept += self.go_into(drawn, bench, 3)
            self.assertRaises(NoTrial, bench.keep)
        self.assertGreater(kept, 50)

    def go_into(self, drawn, bench, deep):
        """Blocks in blocks with deeds between them; how many were kept."""
        kept = 0
        for _ in range(drawn.randint(1, 3)):
            self.draw_deed(drawn, bench)
            if deep and drawn.random() < 0.7:
                before, keeps, fails = whole(bench), drawn.random() < 0.5, drawn.random() < 0.3
                try:
                    with bench.trial():
                        self.draw_deed(drawn, bench)
                        kept += self.go_into(drawn, bench, deep - 1)
                        if keeps:
                            bench.keep()
                        self.draw_deed(drawn, bench)
                        inside = whole(bench)
                        if fails:
                            raise Stop
                except Stop:
                    self.assertTrue(fails)
                kept += keeps and not fails
                self.assertEqual(whole(bench), inside if keeps and not fails else before)
        return kept

    def draw_deed(self, drawn, bench):
        act = drawn.choice([
            bench.undo, bench.undo, bench.redo, lambda: bench.add(f"file {drawn.choice('uvwxyz')} by shell"), lambda: bench.drop(len(bench)),
            lambda: bench.put(1, "file f by " + drawn.choice(self.house.rules)), lambda: bench.see("cloud", ("a", "b"))])
        try:
            act()
        except OrderError:
            pass


class CopyTest(Benches):

    def test_copies_are_alike_and_independent(self):
        bench = self.fill()
        other = bench.copy()
        self.assertIs(type(other), Bench)
        self.assertIsNot(other, bench)
        self.assertTrue(other == bench)
        self.assertEqual(whole(other), whole(bench))
        before = whole(bench)
        other.redo()
        other.add("file x by loose")
        other.see("cloud", ("a", "b"))
        self.assertEqual(whole(bench), before)
        before = whole(other)
        bench.undo()
        bench.drop(4)
        self.assertEqual(whole(other), before)
        self.assertEqual(whole(Bench(self.house).copy()), whole(Bench(self.house)))

    def test_copies_are_outside_of_all_blocks(self):
        bench = self.fill()
        with bench.trial():
            bench.add("file x by loose")
            other = bench.copy()
            self.assertRaises(NoTrial, other.keep)
            with other.trial():
                other.add("file y by loose")
                other.keep()
                self.assertEqual(len(bench), 4)
            self.assertEqual((len(bench), len(other)), (4, 5))
            self.assertEqual(bench.tried(lambda held: held.copy()).lines, bench.lines)
        self.assertEqual((len(bench), len(other)), (3, 5))
        other.undo()
        other.undo()
        self.assertTrue(other == bench)
        self.assertRaises(NoTrial, other.keep)

    def test_blocks_of_a_copy_are_not_those_of_the_bench(self):
        bench = self.fill()
        other = bench.copy()
        with other.trial():
            self.assertRaises(NoTrial, bench.keep)
            with bench.trial():
                bench.add("file x by loose")
                bench.keep()
            other.add("file x by loose")
        self.assertEqual((len(bench), len(other)), (4, 3))


class ArgumentsTest(Benches):

    def test_arguments_by_name(self):
        bench = Bench(house=self.house)
        bench.add(line=LINES[0])
        bench.put(line="file f by loose", number=1)
        bench.see(rows=("a", "b"), rule="cloud")
        self.assertEqual(bench.possible(other="b", rule="cloud", one="a"), ("before",))
        bench.drop(number=1)
        self.assertEqual(bench.tried(look=lambda held: 5, keep=True), 5)
        again = read_bench(lines=bench.journal, house=self.house)
        self.assertEqual(again.journal, ("add file f by shell", "put 1 file f by loose", "see cloud a b", "drop 1"))
        for name, names in (
            ("add", ["line"]), ("put", ["number", "line"]), ("drop", ["number"]), ("see", ["rule", "rows"]), ("weak", []), ("undo", []),
            ("possible", ["rule", "one", "other"]), ("redo", []), ("trial", []), ("tried", ["look", "keep"]), ("keep", []), ("copy", []),
        ):
            self.assertIn(name, vars(Bench))
            self.assertEqual(list(inspect.signature(getattr(bench, name)).parameters), names)
        for name in ("__len__", "__getitem__", "__setitem__", "__iadd__", "__isub__", "__eq__"):
            self.assertIn(name, vars(Bench))
        told = inspect.signature(bench.tried).parameters["keep"]
        self.assertEqual((told.kind, told.default), (inspect.Parameter.KEYWORD_ONLY, False))
        self.assertEqual(list(inspect.signature(read_bench).parameters), ["house", "lines"])
        self.assertEqual((Bench.__module__, read_bench.__module__), ("trustsorted.benches",) * 2)

    def test_errors_keep_any_value(self):
        for error in (BadLine, NoLine, Needed, NothingToUndo, NothingToRedo, NoTrial, BadJournal):
            self.assertEqual(error.__bases__, (OrderError,))
            for value in any_values():
                self.assertIs(error(value).value, value)

    def test_which_error_comes_first(self):
        bench = self.bench = self.fill()
        self.assert_refused(NoLine, 9, bench.put, 9, 1)
        self.assert_refused(NoLine, True, bench.put, True, "file f by shell")
        for _ in range(7):
            bench.see("cloud", ("a", "b"))
        self.assert_refused(BadSeen, ("cloud", ("b", "a")), bench.see, "cloud", ("b", "a"))
        self.assert_refused(NoRule, 1, bench.possible, 1, 2, 3)
        self.assert_refused(BadName, 2, bench.possible, "cloud", 2, 3)


if __name__ == "__main__":
    unittest.main()
