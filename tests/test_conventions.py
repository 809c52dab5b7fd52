"""Sections 2, 3 and the interface, over the whole program."""

import importlib
import inspect
import operator
import random
import unittest

from tests.draws import draw_house
from tests.plain import all_names
from tests.plainworks import draw_work
from tests.test_tools import TEXT
from tests.test_works import fitting_seen
from tests.values import any_values
from trustsorted.benches import Bench
from trustsorted.desk import Desk
from trustsorted.errors import OrderError, OtherSigns
from trustsorted.houses import House, listed, world
from trustsorted.mending import cheapest
from trustsorted.sets import Names
from trustsorted.works import Work, weak

INTERFACE = {
    "errors": "OrderError BadHouse NoRule NoPass NotFull BadName BadRows BadSeen Unfit BadTool BadLoad BadPromise BadPromises BadSigns "
              "BadForms OtherSigns TooMany BadLength BadWork NoFile BadChanges BadOffers BadLine NoLine Needed NothingToUndo NothingToRedo "
              "NoTrial BadJournal BadSay",
    "houses": "House order listed is_listed is_world world",
    "seeing": "possible fitting ranked shows_possible shows_fitting",
    "trusting": "carries together agreed same shows_carries shows_together shows_agreed shows_same",
    "tools": "used keeps meant",
    "trust": "trust shows_trust",
    "sets": "Names",
    "losing": "lost",
    "works": "Work results weak shows_weak",
    "mending": "changed cheapest shows_cheapest",
    "benches": "Bench read_bench",
    "desk": "Desk",
}

PARAMETERS = {
    "order": "house rule one other", "listed": "house rule rows", "is_listed": "house rule rows", "is_world": "house value", "world": "house",
    "possible": "house seen rule one other", "fitting": "house seen", "ranked": "house seen rule number",
    "shows_possible": "house seen rule one other value", "shows_fitting": "house seen value",
    "carries": "house seen one other", "together": "house seen one other", "agreed": "house seen one other", "same": "house seen one other",
    "shows_carries": "house seen one other value", "shows_together": "house seen one other value",
    "shows_agreed": "house seen one other value", "shows_same": "house seen one other value",
    "used": "house tool load", "keeps": "house promise rows", "meant": "house rule tool load", "trust": "house seen promises tool",
    "shows_trust": "house seen promises tool value", "lost": "house rule other", "results": "work files", "weak": "work seen",
    "shows_weak": "work seen value", "changed": "work changes", "cheapest": "work seen offers", "shows_cheapest": "work seen offers value",
    "read_bench": "house lines", "House": "text", "Work": "house text", "Bench": "house", "Desk": "text",
}

METHODS = {
    "House": "passes(rule)", "Names": "of(signs forms) many(length) is_within(other)", "Work": "promise(name) tool(name)",
    "Bench": "add(line) put(number line) drop(number) see(rule rows) weak() possible(rule one other) undo() redo() trial() tried(look keep) "
             "keep() copy()",
    "Desk": "say(line)",
}

ATTRIBUTES = {
    "House": "text signs rules is_full", "Names": "signs table shortest is_endless", "Work": "house text names inputs",
    "Bench": "house lines seen done work journal", "Desk": "bench",
}


def objects():
    house, bench = House(TEXT), Bench(House(TEXT))
    bench.add("file a by exact")
    return {"House": house, "Names": Names.of(("a", "b"), ("a+ b",)), "Work": Work(house, "file a by exact"), "Bench": bench, "Desk": Desk(TEXT)}


def module_of(name):
    return importlib.import_module("trustsorted." + name)


class InterfaceTest(unittest.TestCase):

    def test_names_stand_in_their_files(self):
        for name, words in INTERFACE.items():
            for word in words.split():
                self.assertEqual(getattr(module_of(name), word).__module__, "trustsorted." + name, word)

    def test_parameters(self):
        for name, words in INTERFACE.items():
            for word in words.split():
                if word in PARAMETERS:
                    told = inspect.signature(getattr(module_of(name), word)).parameters
                    self.assertEqual(" ".join(told), PARAMETERS[word])
                    self.assertTrue(all(part.kind == part.POSITIONAL_OR_KEYWORD and part.default is part.empty for part in told.values()))
                else:
                    self.assertTrue(word == "Names" or name == "errors", word)

    def test_methods_and_attributes(self):
        for word, held in objects().items():
            for told in METHODS[word].replace(") ", ")\n").split("\n"):
                name, names = told[:-1].split("(")
                self.assertIn(name, vars(type(held)))
                self.assertEqual(" ".join(inspect.signature(getattr(held, name)).parameters), names)
            for name in ATTRIBUTES[word].split():
                self.assertTrue(hasattr(held, name), name)

    def test_errors_derive_directly_from_one(self):
        self.assertEqual(OrderError.__bases__, (ValueError,))
        for word in INTERFACE["errors"].split():
            error = getattr(module_of("errors"), word)
            self.assertTrue(error is OrderError or error.__bases__ == (OrderError,))
            for value in any_values():
                self.assertIs(error(value).value, value)
                self.assertEqual(len(error(value).args), 1)
                self.assertRaises(TypeError, error)


class OperatorsTest(unittest.TestCase):

    def test_other_sides(self):
        for word, held in objects().items():
            for value in any_values() + list(objects().values()):
                for act in (operator.add, operator.sub, operator.mul, operator.floordiv, operator.mod, operator.and_, operator.or_, operator.xor,
                            operator.lt, operator.le, operator.gt, operator.ge, operator.pow, operator.lshift, operator.rshift):
                    if isinstance(value, str) and act is operator.mod:
                        continue
                    if word == "Names" and isinstance(value, Names) and act in (operator.and_, operator.or_, operator.sub):
                        continue
                    self.assertRaises(TypeError, act, held, value)
                    self.assertRaises(TypeError, act, value, held)

    def test_single_signs(self):
        for word, held in objects().items():
            for act in (operator.neg, operator.pos, abs, operator.invert):
                if word != "Names" or act is not operator.invert:
                    self.assertRaises(TypeError, act, held)
            if word not in ("Bench",):
                self.assertRaises(TypeError, operator.getitem, held, 1)
            if word in ("Desk", "Names"):
                self.assertRaises(TypeError, len, held)
            if word in ("Desk", "Bench"):
                self.assertRaises(TypeError, operator.contains, held, "a")
            self.assertRaises(TypeError, iter, held)

    def test_sets_of_names_over_other_signs(self):
        names = Names.of(("a", "b"), ("a+ b",))
        for other in (Names.of(("b", "a"), ("a",)), Names.of(("a",), ("a",)), Names.of(("a", "b", "c"), ("a+ b",))):
            for act in (operator.and_, operator.or_, operator.sub, Names.is_within):
                with self.assertRaises(OtherSigns) as caught:
                    act(names, other)
                self.assertIs(caught.exception.value, other)
        for value in any_values():
            if not (isinstance(value, Names) and value.signs == names.signs):
                self.assertRaises(OtherSigns, names.is_within, value)

    def test_equal_to_nothing_else(self):
        for word, held in objects().items():
            for value in any_values() + [other for name, other in objects().items() if name != word]:
                if type(value) is not type(held):
                    self.assertIs(held == value, False)
                    self.assertIs(held != value, True)


class GuaranteesTest(unittest.TestCase):

    def test_more_seen(self):
        """With more listings that fit, no line that was sound can be deceived, and no choice becomes dearer."""
        grown = 0
        for seed in range(200):
            drawn = random.Random(seed)
            text = draw_house(drawn, most_signs=2, most_passes=2, known=0.9, forms=0.2)
            names = list(all_names(text, 2))
            if not [name for name in names if name]:
                continue
            house = House(text)
            some = world(house)
            seen = tuple((rule, listed(some, rule, tuple(drawn.sample(names, min(len(names), 3))))) for rule in house.rules * 3 if len(names) > 1)
            work = Work(house, draw_work(drawn, text, 6))
            offers = tuple((("by", 1, rule), 1) for rule in house.rules if not work.text.startswith(f"file {work.names[0]} by {rule}"))
            numbers, prices = [], []
            for many in range(len(seen) + 1):
                told, best = weak(work, seen[:many]), cheapest(work, seen[:many], offers)
                numbers.append(told[1] if told != ("sound",) else 99)
                prices.append(best[1] if best[0] == "choice" else 99)
            self.assertEqual(numbers, sorted(numbers), (text, work.text, seen))
            self.assertEqual(prices, sorted(prices, reverse=True), (text, work.text, seen))
            grown += numbers[0] < numbers[-1]
        self.assertGreater(grown, 3)

    def test_equal_calls_return_equal_results(self):
        for seed in range(40):
            drawn = random.Random(seed)
            text = draw_house(drawn, most_signs=4, known=0.5, forms=0.2)
            names = list(all_names(text, 2))
            if [name for name in names if name]:
                work, seen = draw_work(drawn, text, 8), fitting_seen(drawn, House(text), names, 2)
                told = weak(Work(House(text), work), seen)
                self.assertEqual(told, weak(Work(House(text), work), seen))
                bench = Bench(House(text))
                for line in work.split("\n"):
                    bench.add(line)
                for rule, rows in seen:
                    bench.see(rule, rows)
                self.assertEqual(bench.weak(), told)
                self.assertEqual(bench.weak(), told)


if __name__ == "__main__":
    unittest.main()
