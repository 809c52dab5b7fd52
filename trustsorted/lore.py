"""What is known of the ranks of a rule, and the worlds that fit it.

What is known of all passes of a rule is one integer, whose bits are those of
the rows in closing.py: for each pass the rows of lows, then those of belows.
More bits mean that more is known, and that fewer worlds fit.
"""

from trustsorted.chains import chain
from trustsorted.closing import arranged, class_rows, closed, fact_rows, figure_bits


class Lore:
    """What the text of a house, and files listed by a rule, tell of this rule.

    `start` is what is known of all worlds that fit, None if there are none.
    """

    def __init__(self, house, rule, files):
        self.signs = house.signs
        self.size = len(house.signs)
        self.lines = house.passes(rule)
        self.words = [word for word, classes, facts in self.lines]
        self.figures = figure_bits(house.signs)
        self.pairs = {
            (number, one, other): self.new_bits(number, one, other)
            for number in range(len(self.lines)) for one in range(self.size) for other in range(self.size)
        }
        self.unlike = []
        self.drawn = {}
        self.twinned = {}
        self.chains = [self.links(one, other) for rows in files for one, other in zip(rows, rows[1:])]
        self.start = self.settled(self.first_known())
        if self.start is not None:
            self.chains = [told for told in self.chains if not self.is_kept(told[0])]
        self.levels = self.open_passes() if self.start is not None else []
        self.marked = self.marked_signs()

    def marked_signs(self):
        """The signs of which more is known than the ranks in which they stand."""
        marked = {}
        for links, verdict in self.chains:
            for number, alike, before, behind in links:
                for sign, row in enumerate(self.rows(alike, number)[0]):
                    if row:
                        marked[sign] = True
        for unlike in self.unlike:
            for pair in unlike:
                marked[pair[0]] = True
                marked[pair[1]] = True
        return marked

    def is_kept(self, links):
        """Whether the files leave no choice in a chain."""
        for number, alike, before, behind in links:
            if self.start & alike != alike:
                return self.start & before == before
        return True

    def first_known(self):
        """What the lines of the passes tell."""
        known = 0
        for number, (word, classes, facts) in enumerate(self.lines):
            lows, belows, unlike = [0] * self.size, [0] * self.size, ()
            if classes is not None:
                lows, belows = class_rows(self.signs, classes)
            elif facts is not None:
                lows, belows, unlike = fact_rows(self.signs, facts)
                lows, belows = closed(lows, belows, self.figures_of(number), unlike)
            self.unlike.append(unlike)
            known = known | self.packed(number, lows, belows)
        return known

    def figures_of(self, number):
        """The bits of the signs whose classes stand side by side in a pass."""
        return self.figures if self.words[number] == "figures" else 0

    def links(self, one, other):
        """The chain and the verdict for two names; each link with its bits.

        A link is (pass, bits for alike, bits for before, bits for behind).
        """
        numbers = [[self.signs.index(sign) for sign in name] for name in (one, other)]
        told, verdict = chain(self.words, numbers[0], numbers[1], self.figures)
        return [(number,) + self.pair_bits(number, low, high) for number, low, high in told], verdict

    def pair_bits(self, number, one, other):
        """The bits by which one is alike to other in a pass, is before it, and is behind it."""
        return self.pairs[(number, one, other)]

    def new_bits(self, number, one, other):
        """The same, worked out."""
        low = 1 << (2 * number * self.size + one) * self.size + other
        high = 1 << (2 * number * self.size + other) * self.size + one
        far = self.size * self.size
        return low | high, low | low << far, high | high << far

    def first_alike(self, number, sign):
        """The first sign that is sure to be of one class with a sign in a pass."""
        for other in range(sign):
            bits = self.pair_bits(number, other, sign)[0]
            if self.start & bits == bits:
                return other
        return sign

    def twins(self, known, numbers):
        """For each sign a mark, by which signs are like if nothing known of these passes parts them."""
        key = (known, numbers)
        if key not in self.twinned:
            marks = []
            for sign in range(self.size):
                same = [other for other in range(sign) if self.are_twins(known, numbers, other, sign)]
                marks.append(same[0] if same else sign)
            self.twinned[key] = marks
        return self.twinned[key]

    def are_twins(self, known, numbers, one, other):
        """Whether nothing that counts of these passes changes if two signs change their places."""
        if (self.figures >> one ^ self.figures >> other) & 1:
            return False
        if numbers and (one in self.marked or other in self.marked):
            return False
        both = 1 << one | 1 << other
        for number in numbers:
            for rows in self.rows(known, number):
                lone = [row & both for at, row in enumerate(rows) if not both >> at & 1 and row & both != both]
                if any(lone) or swapped(rows[one], one, other) != rows[other]:
                    return False
        return True

    def pass_bits(self, number):
        """All bits that speak of a pass."""
        width = 2 * self.size * self.size
        return (1 << width) - 1 << number * width

    def packed(self, number, lows, belows):
        """The bits for the rows of a pass."""
        first = 2 * number * self.size * self.size
        return sum([row << first + at * self.size for at, row in enumerate(lows + belows)])

    def rows(self, known, number):
        """The rows (lows, belows) of a pass."""
        first = 2 * number * self.size * self.size
        full = (1 << self.size) - 1
        rows = [known >> first + at * self.size & full for at in range(2 * self.size)]
        return rows[:self.size], rows[self.size:]

    def followed(self, known, number, bits):
        """All that follows in one pass by bits that speak of it, None if nothing fits it."""
        if known & bits == bits:
            return known
        lows, belows = self.rows(known | bits, number)
        told = closed(lows, belows, self.figures_of(number), self.unlike[number])
        if told is None:
            return None
        return known | self.packed(number, told[0], told[1])

    def pressed(self, known, links, verdict):
        """What follows where a chain must not tell behind, None if nothing fits it.

        The first link that is not sure to be alike must not tell behind. What
        stands behind it is not bound, for it can be made to tell before.
        """
        for number, alike, before, behind in links:
            if known & alike != alike:
                return self.followed(known, number, alike & before)
        return None if verdict > 0 else known

    def settled(self, known):
        """All that is known if the files are listed, too; None if no world fits.

        A world fits if all classes are apart that are not sure to be one:
        then the first link of each chain that is not sure to be alike tells
        before. So where nothing here is at odds, there is a world.
        """
        earlier = None
        while earlier != known:
            earlier = known
            for links, verdict in self.chains:
                known = self.pressed(known, links, verdict)
                if known is None:
                    return None
        return known

    def more(self, known, number, bits):
        """All that is known if these bits of a pass are, too; None if no world fits then."""
        key = (known, bits)
        if key not in self.drawn:
            told = self.followed(known, number, bits)
            self.drawn[key] = told if told is None or told == known else self.settled(told)
        return self.drawn[key]

    def is_alike(self, known, number, one, other):
        """Whether two signs are known to be of one class in a pass."""
        bits = self.pair_bits(number, one, other)[0]
        return known & bits == bits

    def with_alike(self, known, number, one, other):
        """All that is known if two signs are of one class in a pass, too; None if no world fits."""
        return self.more(known, number, self.pair_bits(number, one, other)[0])

    def with_low(self, known, number, one, other):
        """All that is known if one does not stand behind other in a pass, too; None if no world fits."""
        alike, before, behind = self.pair_bits(number, one, other)
        return self.more(known, number, alike & before)

    def with_before(self, known, number, one, other):
        """All that is known if one stands ahead of other in a pass, too; None if no world fits."""
        return self.more(known, number, self.pair_bits(number, one, other)[1])

    def open_passes(self):
        """The numbers of the passes of which not all ranks are known."""
        told = self.classes(self.start)
        numbers = []
        for number in told:
            lows, belows = class_rows(self.signs, told[number])
            if self.packed(number, lows, belows) & ~self.start:
                numbers.append(number)
        return numbers

    def classes(self, known):
        """The classes of each pass with ranks, by its number, in a world that fits."""
        told = {}
        for number, word in enumerate(self.words):
            if word != "length":
                lows, belows = self.rows(known, number)
                told[number] = arranged(self.signs, lows, self.figures_of(number))
        return told


def swapped(row, one, other):
    """A row with the bits of two signs in one another's places."""
    if (row >> one ^ row >> other) & 1:
        return row ^ (1 << one | 1 << other)
    return row
