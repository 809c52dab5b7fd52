"""The examples of the document, word for word."""

import doctest
import unittest

EXAMPLES = r"""
>>> from trustsorted.houses import House, is_world, listed, order, world
>>> text = 'signs a b A B 1 2 -\nrule shell\n  ranks - 1 2 A B a b\nrule phone\n  figures - 1 2 a=A b=B\n  ranks a A b B 1=2=-\nrule cloud\n  ranks known 1<2 a<b A<B'
>>> house = House(text.replace('known 1<2 a<b A<B', '1 2 a A b B -'))
>>> [listed(house, rule, ('b-1', 'a12', 'B', 'a2', 'A2')) for rule in ('shell', 'phone', 'cloud')]
[('A2', 'B', 'a12', 'a2', 'b-1'), ('a2', 'A2', 'a12', 'B', 'b-1'), ('a12', 'a2', 'A2', 'b-1', 'B')]
>>> [order(house, 'phone', 'aB', 'Ab'), order(house, 'phone', 'Aa', 'ab'), House(text).is_full, is_world(House(text), house)]
['before', 'before', False, True]
>>> from trustsorted.seeing import fitting, possible, ranked
>>> dim = House(text)
>>> [[word for word, some in possible(dim, (), 'cloud', one, other)] for one, other in (('a1', 'a2'), ('a', 'b-'), ('a-', 'a1'))]
[['before'], ['before'], ['alike', 'before', 'behind']]
>>> seen = (('cloud', ('a-', 'a1', 'A')),)
>>> [[word for word, some in possible(dim, seen, 'cloud', 'a-2', 'a1')], ('a', 'A') in ranked(dim, seen, 'cloud', 0), fitting(dim, (('cloud', ('1', 'a')), ('cloud', ('b', 'a'))))]
[['before', 'behind'], True, ('none', (1,))]
>>> from trustsorted.trusting import agreed, carries, same, together
>>> folded = House('signs a A b 1 2\nrule exact\n  ranks 1 2 A a b\nrule loose\n  ranks 1 2 a=A b\nrule fine\n  ranks 1 2 a=A b\n  ranks A a b=1=2\nrule value\n  figures 1 2 a=A b')
>>> [carries(folded, (), one, other)[0] for one, other in (('fine', 'loose'), ('loose', 'fine'), ('exact', 'loose'), ('fine', 'fine'))]
['carries', 'not', 'not', 'carries']
>>> [together(folded, (), 'exact', 'loose')[0], together(folded, (), 'fine', 'loose'), agreed(folded, (), 'loose', 'fine'), agreed(folded, (), 'loose', 'value')[0]]
['apart', ('together',), ('agreed',), 'clash']
>>> from trustsorted.tools import meant, used
>>> from trustsorted.trust import trust
>>> [used(folded, ('keep', 'loose'), (('A', 'Ab', 'a'),)), meant(folded, 'exact', ('keep', 'loose'), (('A', 'Ab', 'a'),))]
[('A', 'Ab', 'a'), False]
>>> [used(folded, ('find', 'value', '2'), (('12', '2'),)), used(folded, ('find', 'value', '12'), (('12', '2'),))]
[True, False]
>>> exact, fine, value = ('exact', (), ()), ('fine', (), ()), ('value', (), ())
>>> [trust(folded, (), (fine,), ('keep', 'loose')), len(trust(folded, (), (exact,), ('find', 'value', '12'))[2][0]), trust(folded, (), (value, value), ('merge', 'exact'))[0]]
[('right',), 2, 'deceived']
>>> [trust(folded, (), (('exact', ('loose',), (('exact', 'a', 'aa'),)),), ('keep', rule))[0] for rule in ('loose', 'value')]
['right', 'right']
>>> from trustsorted.losing import lost
>>> from trustsorted.sets import Names
>>> [Names.of(('a', 'b'), ('ab?',)).many(length) for length in (0, 1, 2)]
[1, 2, 0]
>>> few = Names.of(('a', 'b'), ('a+ b?', ''))
>>> [few.table, few.shortest, few.many(3), 'aab' in few, (few & ~few).shortest, few.is_within(Names.of(('a', 'b'), ('a* b*',)))]
[((True, (1, 2)), (True, (1, 3)), (False, (2, 2)), (True, (2, 2))), '', 2, True, None, True]
>>> gone = lost(folded, 'exact', 'value')
>>> ['12' in gone, '2' in gone, gone.shortest, lost(folded, 'fine', 'loose').shortest]
[True, True, 'a', None]
>>> from trustsorted.mending import cheapest
>>> from trustsorted.works import results, weak, Work
>>> lines = 'file old by exact\nfile new by fine\nkeep once by loose of old\nboth all by loose of new and once\nfind hit by loose of all for Ab'
>>> mill = Work(folded, lines)
>>> [mill.promise('all'), mill.promise('once'), mill.tool('once'), results(mill, (('A', 'Ab', 'a'), ('ab',)))]
[('fine', (), ()), ('exact', ('loose',), ()), ('keep', 'loose'), (('A', 'Ab', 'a'), ('ab',), ('A', 'Ab', 'a'), ('ab',), True)]
>>> [weak(mill, ())[:2], cheapest(mill, (), ((('by', 1, 'fine'), 4), (('sort', 3), 5)))[:3]]
[('weak', 3), ('choice', 4, (('by', 1, 'fine'),))]
>>> from trustsorted.benches import Bench
>>> bench = Bench(dim)
>>> bench.add('file a by shell')
>>> bench.add('keep b by cloud of a')
>>> bench.see('cloud', ('a-', 'a1'))
>>> [bench.weak()[:2], bench.tried(lambda held: held.see('cloud', ('1', '-'))), bench.done, bench.possible('cloud', '-', '1'), bench.journal[2]]
[('weak', 2), None, 3, ('alike', 'before'), 'see cloud a- a1']
>>> from trustsorted.desk import Desk
>>> desk = Desk(text)
>>> [desk.say('add file a by phone'), desk.say('order cloud a- a1'), desk.say('trust phone phone'), desk.say('weak')]
['done', 'alike before behind', 'yes', 'sound']
"""


class ExamplesTest(unittest.TestCase):

    def test_examples(self):
        example = doctest.DocTestParser().get_doctest(EXAMPLES, {}, "examples", None, 0)
        self.assertEqual(len(example.examples), 43)
        runner = doctest.DocTestRunner(verbose=False)
        self.assertEqual(runner.run(example).failed, 0)

    def test_what_is_told_below_the_examples(self):
        from trustsorted.houses import House, order
        from trustsorted.seeing import fitting, ranked

        text = "signs a b A B 1 2 -\nrule cloud\n  ranks known 1<2 a<b A<B"
        dim = House(text)
        seen = (("cloud", ("a-", "a1", "A")),)
        some = fitting(dim, seen)[1]
        self.assertNotEqual(order(some, "cloud", "-", "1"), "behind")
        self.assertIn(("a", "A"), ranked(dim, seen, "cloud", 0))
        folded = House("signs a A b 1 2\nrule exact\n  ranks 1 2 A a b\nrule loose\n  ranks 1 2 a=A b\n"
                       "rule value\n  figures 1 2 a=A b")
        self.assertEqual(order(folded, "exact", "Ab", "aA"), "before")
        self.assertEqual(order(folded, "loose", "Ab", "aA"), "behind")
        self.assertEqual(order(folded, "value", "2", "12"), "before")


if __name__ == "__main__":
    unittest.main()
