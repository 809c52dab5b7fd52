"""What trust tells of small houses, beside plain lists of all worlds and all small loads."""

import functools
import random
import unittest
import unittest.mock

from tests.draws import draw_house
from tests.loads import FILES, wrong_load
from tests.measure import most_length
from tests.plain import Plain, all_names, rule_worlds
from tests.test_trust import measure
from trustsorted import solving
from trustsorted.houses import House
from trustsorted.trust import trust

ENDS = (
    ("b 2", ["2b* b+ b 2"], (["figures 2 b"], ["length"], ["figures 2 b"]),
     (("two", (), ()), ("three", (), ())), ("both", "two"), 4),
    ("- 1", ["1-? - -1* -? 1- 1+", "-1 1+"], (["figures 1 -", "back -=1"], ["length", "figures 1 -"], ["ranks 1 -", "length"]),
     (("two", ("three", "two"), ()), ("three", ("one", "three"), ())), ("both", "one"), 4),
    ("2 A a .", ["A aA2", ".Aa? aA? aA A2 a* A?"],
     (["ranks . a 2 A", "ranks 2 a A ."], ["figures 2 a . A", "back A a .=2"], ["ranks . 2 A=a"]),
     (("three", (), ()),), ("find", "one", "Aa"), 3),
)


def draw_text(drawn, most_signs, most_worlds):
    """The text of a house of two or three rules with not too many worlds, and one of its worlds."""
    while True:
        names = ("one", "two", "three")[:drawn.choice([2, 2, 3])]
        text = draw_house(
            drawn, most_signs=most_signs, rules=names, most_passes=drawn.choice([2, 3]), known=drawn.choice([0, 0.3]), forms=0.4)
        head, told = rule_worlds(text)
        if list(all_names(text, 2)) and all(len(worlds) <= most_worlds for worlds in told.values()):
            return text, list(told), Plain("\n".join(head + [drawn.choice(worlds) for worlds in told.values()]))


def draw_seen(drawn, rules, hidden, names):
    seen = []
    for _ in range(drawn.choice([0, 0, 1, 2])):
        rule = drawn.choice(rules)
        rows = [drawn.choice(names) for _ in range(drawn.randint(2, 3))]
        seen.append((rule, tuple(sorted(rows, key=functools.cmp_to_key(functools.partial(hidden.compare, rule))))))
    return tuple(seen)


def draw_cut(drawn, rules, hidden, names):
    rule, low, high = drawn.choice(rules), drawn.choice(names), drawn.choice(names)
    if hidden.compare(rule, low, high) > 0:
        low, high = high, low
    return (rule, low, high)


def draw_promise(drawn, rules, hidden, names):
    unlikes = tuple(sorted(drawn.sample(rules, drawn.choice([0, 0, 0, 1, 1, 2]))))
    cuts = {draw_cut(drawn, rules, hidden, names) for _ in range(drawn.choice([0, 0, 0, 1, 2]))}
    return (drawn.choice(rules), unlikes, tuple(sorted(cuts)))


def draw_question(drawn, word, text, rules, hidden):
    """(seen, promises, tool) of a house."""
    names = list(all_names(text, 3))
    tool = (word, drawn.choice(rules))
    if word == "find":
        tool = tool + (drawn.choice(names),)
    if word == "cut":
        tool = (word,) + draw_cut(drawn, rules, hidden, names)
    promises = tuple(draw_promise(drawn, rules, hidden, names) for _ in range(FILES[word]))
    return draw_seen(drawn, rules, hidden, list(all_names(text, 2))), promises, tool


class TrustMeasureTest(unittest.TestCase):

    def measure(self, word, first, last, most_signs=3, most_worlds=60):
        counts = {}
        for seed in range(first, last):
            drawn = random.Random(seed)
            text, rules, hidden = draw_text(drawn, most_signs, most_worlds)
            for _ in range(3):
                seen, promises, tool = draw_question(drawn, word, text, rules, hidden)
                house = House(text)
                told = trust(house, seen, promises, tool)
                wrong = wrong_load(text, seen, promises, tool, told, most_length(text, 15), 10 ** 5)
                self.assertIn(wrong, ("", None), (text, seen, promises, tool, told))
                least = measure(house, seen, promises, tool)
                counts[least] = counts.get(least, 0) + 1
        return counts

    def assert_many(self, counts, rows):
        """Whether it was measured often enough: loads of so many rows, with longest ones of some lengths."""
        self.assertGreater(counts[None], 20)
        self.assertEqual({told[0] for told in counts if told}, set(rows))
        for many in rows:
            lengths = {told[1]: counts[told] for told in counts if told and told[0] == many}
            self.assertGreater(len(lengths), 2, counts)
            self.assertGreater(sum(lengths.values()), 9, counts)

    def test_keep(self):
        self.assert_many(self.measure("keep", 0, 120), (3,))

    def test_merge(self):
        self.assert_many(self.measure("merge", 1000, 1060), (2,))

    def test_both(self):
        self.assert_many(self.measure("both", 2000, 2060), (3,))

    def test_only(self):
        self.assert_many(self.measure("only", 3000, 3060), (3,))

    def test_find(self):
        self.assert_many(self.measure("find", 4000, 4120), (2, 3))

    def test_cut(self):
        self.assert_many(self.measure("cut", 5000, 5060), (2,))

    def test_more_worlds(self):
        for word in FILES:
            self.measure(word, 6000, 6006, 2, 400)

    def test_where_it_takes_long_to_tell_whether_names_fit(self):
        """What is told does not change if this is given up early: then the search itself has to find out."""
        for word in FILES:
            for seed in range(7000, 7020):
                drawn = random.Random(seed)
                text, rules, hidden = draw_text(drawn, 3, 1000)
                question = draw_question(drawn, word, text, rules, hidden)
                least = measure(House(text), *question)
                for most in (0, 1, 10):
                    with unittest.mock.patch.object(solving, "MOST_STEPS", most):
                        self.assertEqual(measure(House(text), *question), least, (text, question, most))

    def test_forms_with_ends_of_many_lengths(self):
        """What ends late may stand where the search comes early: it is not to hide what ends early."""
        for signs, forms, rules, promises, tool, most in ENDS:
            lines = ["signs " + signs] + ["names " + form for form in forms]
            for name, passes in zip(("one", "two", "three"), rules):
                lines = lines + ["rule " + name] + ["  " + line for line in passes]
            house = House("\n".join(lines))
            told = trust(house, (), promises, tool)
            self.assertEqual(told[0], "deceived")
            self.assertEqual(wrong_load(house.text, (), promises, tool, told, most), "", (house.text, promises, tool))


if __name__ == "__main__":
    unittest.main()
