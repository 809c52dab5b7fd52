"""What follows of words that are told of pairs of names, beside all sequences of classes."""

import itertools
import random
import unittest

from tests.plain import place_of, weak_orders
from trustsorted.points import ALIKE, ANY, BEFORE, BEHIND, NOT_BEHIND, TURNED, UNLIKE, drawn


def word_of(classes, one, other):
    far = place_of(classes, one) - place_of(classes, other)
    return BEFORE if far < 0 else ALIKE if far == 0 else BEHIND


class PointsTest(unittest.TestCase):

    def test_words(self):
        self.assertEqual([BEFORE | ALIKE, BEFORE | BEHIND, BEFORE | ALIKE | BEHIND], [NOT_BEHIND, UNLIKE, ANY])
        for words in range(8):
            self.assertEqual(TURNED[TURNED[words]], words)
        self.assertEqual(TURNED[NOT_BEHIND], ALIKE | BEHIND)

    def test_beside_all_sequences_of_classes(self):
        counts = {True: 0, False: 0}
        for seed in range(400):
            chosen = random.Random(seed)
            points = list(range(chosen.choice([2, 3, 4])))
            pairs = list(itertools.permutations(points, 2))
            told = [chosen.choice(pairs) + (chosen.choice([1, 2, 3, 3, 4, 5, 6]),) for _ in range(chosen.randint(1, 5))]
            fits = [
                classes for classes in weak_orders(points)
                if all(word_of(classes, one, other) & words for one, other, words in told)
            ]
            table = drawn(told)
            self.assertIs(table is not None, bool(fits), told)
            counts[bool(fits)] += 1
            for pair in table or []:
                self.assertEqual(table[pair] & TURNED[table[pair[::-1]]], table[pair])
                for classes in fits:
                    self.assertTrue(table[pair] & word_of(classes, *pair))
        self.assertGreater(min(counts.values()), 50)


if __name__ == "__main__":
    unittest.main()
