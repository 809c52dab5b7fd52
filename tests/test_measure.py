"""What is told of many small houses, beside plain lists of all worlds and all short names."""

import functools
import random
import unittest

from tests.draws import draw_house
from tests.measure import RELATIONS, complaint, most_length
from tests.plain import Plain, all_names, all_worlds, fitting_rules, place_of, rule_worlds
from trustsorted import seeing, trusting
from trustsorted.errors import Unfit
from trustsorted.houses import House, is_world, world

RULES = ("one", "two")

# Houses in which it shows if a search leaves out too much: signs that are taken for one another though facts or
# listings part them, passes that are forgotten though listings bind them to others, longer ways taken for shorter ones.
HARD = (
    ("signs a 1 2 3\nrule one\n  figures known 2!=3 2!=1\nrule two\n  length\n  back known 1!=a 1!=a 1!=2",
     (("two", ("", "1", "223")), ("one", ("", "")))),
    ("signs a b 1 2\nnames 2 b2a1 1a2b?\nrule one\n  length\nrule two\n  figures a=b 1=2\n  back known 2=a", ()),
    ("signs a 1 2 3\nrule one\n  figures known\nrule two\n  figures known", ()),
    ("signs a 1 2 3\nnames 2a+ 1+\nrule one\n  length\nrule two\n  figures known 3=2\n  length", ()),
    ("signs a b c d\nnames bd c\nnames a d\nrule one\n  ranks known\n  ranks known\nrule two\n  length",
     (("one", ("ad", "bc")), ("one", ("dc", "ad")))),
    ("signs a b c d\nnames d cd\nnames b a\nrule one\n  ranks known\n  ranks known\nrule two\n  figures d a b c",
     (("one", ("dc", "dd", "ba")),)),
    ("signs a b c\nnames bc a ca\nnames cba cba cab\nrule one\n  ranks known\n  ranks known\nrule two\n  ranks a b=c",
     (("one", ("acc", "baa", "ccc")),)),
    ("signs a b c d\nnames b d b\nnames a b cbad\nrule one\n  ranks known\n  ranks known\nrule two\n  ranks c=d b a\n"
     "  length", (("one", ("abd", "abb")), ("one", ("bdb", "abd")))),
    ("signs a b c\nnames c cb\nnames ca acb\nrule one\n  ranks known\n  ranks known\nrule two\n  ranks b a=c",
     (("one", ("ab", "cc")),)),
)


def draw_seen(drawn, text, hidden):
    """Listings of names; in a hidden world they fit, if there is one."""
    names = list(all_names(text, 3))
    seen = []
    for _ in range(drawn.choice([0, 1, 1, 2, 3]) if names else 0):
        rule = drawn.choice(RULES)
        rows = [drawn.choice(names) for _ in range(drawn.randint(2, 4))]
        if hidden:
            rows = sorted(rows, key=functools.cmp_to_key(functools.partial(hidden.compare, rule)))
        seen.append((rule, tuple(rows)))
    return tuple(seen)


def draw_case(seed, most_signs):
    """(text, seen) of a house with no more worlds than can be listed."""
    drawn = random.Random(seed)
    while True:
        text = draw_house(drawn, most_signs=most_signs, most_passes=3 if most_signs < 4 else 2)
        rules = rule_worlds(text)[1]
        if all(len(told) <= 200 for told in rules.values()):
            break
    hidden = None
    if drawn.random() < 0.8:
        head = rule_worlds(text)[0]
        hidden = Plain("\n".join(head + [drawn.choice(told) for told in rules.values()]))
    return drawn, text, draw_seen(drawn, text, hidden)


class MeasureTest(unittest.TestCase):

    def cases(self, first, last, most_signs=3):
        for seed in range(first, last):
            drawn, text, seen = draw_case(seed, most_signs)
            yield drawn, text, seen, fitting_rules(text, seen)

    def test_world(self):
        for _, text, _, _ in self.cases(0, 60):
            worlds = all_worlds(text)
            self.assertIn(world(House(text)).text, worlds)
            for some in worlds[:50]:
                self.assertTrue(is_world(House(text), House(some)))

    def test_fitting(self):
        unfit = 0
        for _, text, seen, fits in self.cases(100, 250):
            house = House(text)
            told = seeing.fitting(house, seen)
            self.assertIs(seeing.shows_fitting(house, seen, told), True)
            if all(fits.values()):
                self.assertEqual(told[0], "fits", (text, seen))
                self.assertIn(told[1].text, all_worlds(text))
                plain = Plain(told[1].text)
                self.assertTrue(all(plain.is_listed(rule, rows) for rule, rows in seen))
                continue
            unfit += 1
            numbers = told[1]
            self.assertEqual(told, ("none", tuple(sorted(set(numbers)))))
            self.assertFalse(all(fitting_rules(text, [seen[at] for at in numbers]).values()))
            for number in numbers:
                fewer = [seen[at] for at in numbers if at != number]
                self.assertTrue(all(fitting_rules(text, fewer).values()))
            self.assertRaises(Unfit, seeing.possible, house, seen, "one", 1, 2)
            for relation in RELATIONS:
                self.assertRaises(Unfit, getattr(trusting, relation), house, seen, 1, 2)
        self.assertGreater(unfit, 10)

    def test_possible(self):
        for drawn, text, seen, fits in self.cases(300, 400):
            names = list(all_names(text, 3))
            if not all(fits.values()) or not names:
                continue
            house = House(text)
            for _ in range(6):
                rule, one, other = drawn.choice(RULES), drawn.choice(names), drawn.choice(names)
                numbers = [plain.compare(rule, one, other) for plain in fits[rule]]
                told = seeing.possible(house, seen, rule, one, other)
                right = {"alike": 0 in numbers, "before": min(numbers) < 0, "behind": max(numbers) > 0}
                self.assertEqual([word for word, some in told], [word for word in sorted(right) if right[word]])
                for word, some in told:
                    plain = Plain(some.text)
                    self.assertIn(some.text, all_worlds(text))
                    self.assertTrue(all(plain.is_listed(name, rows) for name, rows in seen))
                    number = plain.compare(rule, one, other)
                    self.assertEqual(word, "alike" if number == 0 else "before" if number < 0 else "behind")
                self.assertIs(seeing.shows_possible(house, seen, rule, one, other, told), True)

    def test_ranked(self):
        for _, text, seen, fits in self.cases(500, 620):
            if not all(fits.values()):
                continue
            house = House(text)
            for rule in RULES:
                for number, told in enumerate(house.passes(rule)):
                    if told[0] != "length":
                        right = [
                            (one, other) for one in house.signs for other in house.signs
                            if all(place_of(plain.rules[rule][number][1], one)
                                   < place_of(plain.rules[rule][number][1], other) for plain in fits[rule])
                        ]
                        self.assertEqual(seeing.ranked(house, seen, rule, number), tuple(sorted(right)))

    def assert_relations(self, first, last, most_signs, many, relations):
        found = {}
        for _, text, seen, fits in self.cases(first, last, most_signs):
            if not all(fits.values()):
                continue
            house = House(text)
            most = most_length(text, many)
            for relation in relations:
                told = getattr(trusting, relation)(house, seen, "one", "two")
                self.assertEqual(complaint(text, seen, relation, RULES, told, most), "", (relation, text, seen, told))
                shows = getattr(trusting, "shows_" + relation)
                self.assertIs(shows(house, seen, "one", "two", told), True, (relation, text, seen, told))
                length = max([len(name) for name in told[2:]], default=-1)
                found[length] = found.get(length, 0) + 1
        return found

    def test_relations_of_two_names(self):
        found = self.assert_relations(1000, 1240, 3, 60, ("carries", "agreed", "same"))
        self.assertGreater(found[-1], 50)
        for length in (1, 2, 3, 4):
            self.assertGreater(found[length], 2)

    def test_relations_of_three_names(self):
        found = self.assert_relations(2000, 2240, 3, 16, ("together",))
        self.assertGreater(found[-1], 20)
        for length in (1, 2, 3):
            self.assertGreater(found[length], 2)

    def test_relations_over_four_signs(self):
        self.assert_relations(3000, 3080, 4, 40, ("carries", "agreed", "same"))
        self.assert_relations(3100, 3180, 4, 12, ("together",))

    def test_hard_houses(self):
        for text, seen in HARD:
            house = House(text)
            for relation in RELATIONS:
                most = most_length(text, 12 if relation == "together" else 60)
                for rules in (RULES, RULES[::-1]):
                    told = getattr(trusting, relation)(house, seen, *rules)
                    self.assertEqual(complaint(text, seen, relation, rules, told, most), "", (relation, text, told))
                    self.assertIs(getattr(trusting, "shows_" + relation)(house, seen, *rules, told), True)


if __name__ == "__main__":
    unittest.main()
