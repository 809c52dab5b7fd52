"""How many signs the rests of names can have, beside plain lists of lengths."""

import itertools
import unittest

from tests.plain import all_names
from trustsorted.houses import House
from trustsorted.lengths import FAR, least_of, ordered, rest_lengths, unequal, up_to

FORMS = (
    ["names ab* a? b+"], ["names a? b? ab?"], ["names a b a", "names ab+ a+ b+"], ["names a* b*"], [], ["names a", "names a? b"],
)


def lengths_of(bits):
    """The lengths that bits tell, and some that are FAR and more."""
    told = {many for many in range(FAR) if bits >> many & 1}
    return told | set(range(FAR, FAR + 4)) if bits >> FAR & 1 else told


def bits_of(lengths):
    return sum(1 << many for many in {min(FAR, many) for many in lengths})


class LengthsTest(unittest.TestCase):

    def test_rests(self):
        """The rests behind all places at which a name can begin are the lengths of names."""
        for forms in FORMS:
            text = "\n".join(["signs a b"] + forms + ["rule one", "  length"])
            machine = House(text).machine
            lengths = rest_lengths(machine)
            told = {many for start in machine.starts for many in lengths_of(lengths[start])}
            names = {len(name) for name in all_names(text, 8)}
            self.assertEqual({many for many in told if many <= 8}, names, text)
            is_endless = not forms or any(mark in form for form in forms for mark in "+*")
            self.assertEqual(FAR in told, is_endless, text)

    def test_up_to_and_least(self):
        self.assertEqual(up_to(0), 1)
        self.assertEqual(up_to(3), 15)
        self.assertEqual(up_to(-1), 0)
        for bits in (1, 2, 12, 1 << FAR, 3 << FAR - 1):
            self.assertEqual(least_of(bits), min(lengths_of(bits)))

    def test_pairs(self):
        """What is left are just those lengths beside which there are others."""
        far = [0, 1, FAR - 1, FAR]
        some = [set(chosen) for many in (1, 2, 3) for chosen in itertools.combinations([0, 1, 2, 3], many)]
        some = some + [set(chosen) for many in (1, 2) for chosen in itertools.combinations(far, many)]
        for one in some:
            for other in some:
                low, high = bits_of(one), bits_of(other)
                pairs = list(itertools.product(lengths_of(low), lengths_of(high)))
                unlike = [pair for pair in pairs if pair[0] != pair[1]]
                told = unequal(low, high)
                if unlike:
                    self.assertEqual(told, tuple(bits_of(pair[at] for pair in unlike) for at in (0, 1)))
                else:
                    self.assertIn(0, told)
                for gap in (0, 1):
                    fitting = [pair for pair in pairs if pair[0] + gap <= pair[1]]
                    told = ordered(low, high, gap)
                    if fitting:
                        self.assertEqual(told, tuple(bits_of(pair[at] for pair in fitting) for at in (0, 1)))
                    else:
                        self.assertIn(0, told)


if __name__ == "__main__":
    unittest.main()
