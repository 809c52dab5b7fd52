"""The files of the package stay within the small part of Python that they may use."""

import ast
import builtins
import os
import re
import unittest

FOLDER = os.path.join(os.path.dirname(os.path.dirname(os.path.abspath(__file__))), "trustsorted")

BUILTINS = set((
    "len range enumerate zip min max sum abs sorted reversed int str bool bytes list tuple dict set isinstance ord repr "
    "any all divmod ValueError TypeError KeyError NotImplemented True False None property staticmethod"
).split())

METHODS = set((
    "append clear copy count endswith extend find get index insert isalnum isalpha isdigit islower isspace isupper items "
    "join keys ljust lower lstrip partition pop remove replace reverse rfind rjust rpartition rsplit rstrip setdefault "
    "split splitlines startswith strip update upper values zfill bit_length add discard"
).split())

SPECIAL = set((
    "__init__ __eq__ __repr__ __str__ __len__ __enter__ __exit__ __call__ __iter__ __contains__ __getitem__ __setitem__ "
    "__iadd__ __isub__ __or__ __and__ __sub__ __invert__ __name__"
).split())

KEYWORDS = [("sorted", ("key",)), ("min", ("key",)), ("max", ("default",)), ("min", ("default",)), ("enumerate", ("start",))]

STATEMENTS = (
    ast.Assign, ast.AugAssign, ast.If, ast.While, ast.For, ast.Return, ast.Break, ast.Continue, ast.Pass, ast.Raise,
    ast.Delete, ast.Expr, ast.FunctionDef, ast.ClassDef, ast.ImportFrom, ast.Try, ast.With,
)

BARRED = set((
    "register mro elements open input law version_info with_traceback add_note type typing enum Enum Flag Generic "
    "Protocol namedtuple NamedTuple overload dataclass contextmanager attrgetter breakpoint compile copyright delattr dir "
    "eval exec exit gc globals help id license locals os quit super vars sys map filter"
).split())

TAKEN = set()
for kind in (str, int, list, dict, set, bytes, tuple):
    TAKEN.update(name for name in dir(kind) if not name.startswith("__"))


def sources():
    for folder, _, names in sorted(os.walk(FOLDER)):
        if not folder.endswith("__pycache__"):
            for name in sorted(names):
                yield os.path.join(folder, name)


def read_all():
    for path in sources():
        with open(path, encoding="ascii") as held:
            text = held.read()
        yield os.path.basename(path), text, ast.parse(text)


FILES = list(read_all())


def parsed():
    return FILES


class LanguageTest(unittest.TestCase):

    def nodes(self, *kinds):
        for name, _, tree in parsed():
            for node in ast.walk(tree):
                if isinstance(node, kinds):
                    yield f"{name}:{getattr(node, 'lineno', 0)}", node

    def test_files(self):
        for path in sources():
            self.assertRegex(os.path.basename(path), r"\A[a-z_]+\.py\Z")
        for name, text, _ in parsed():
            self.assertRegex(text, r"\A[\n -~]*\Z", name)
            lines = text.split("\n")
            self.assertLessEqual(len(lines), 399, name)
            self.assertLessEqual(max(len(line) for line in lines), 120, name)

    def test_functions_are_short(self):
        for place, node in self.nodes(ast.FunctionDef):
            self.assertLessEqual(node.end_lineno - node.lineno + 1, 40, place)
            told = [at for at in node.decorator_list if getattr(at, "id", "") not in ("property", "staticmethod")]
            self.assertEqual(told, [], place)
            self.assertIsNotNone(ast.get_docstring(node) or node.name.startswith("__"), place)

    def test_statements(self):
        for place, node in self.nodes(ast.stmt):
            self.assertIsInstance(node, STATEMENTS, place)

    def test_module_level(self):
        for name, _, tree in parsed():
            bound = []
            for node in tree.body:
                self.assertIsInstance(node, (ast.Expr, ast.ImportFrom, ast.Assign, ast.FunctionDef, ast.ClassDef), name)
                if isinstance(node, ast.Expr):
                    self.assertIsInstance(node.value, ast.Constant, name)
                elif isinstance(node, ast.ImportFrom):
                    bound.extend(told.name for told in node.names)
                elif isinstance(node, ast.Assign):
                    bound.extend(target.id for target in node.targets)
                    ast.literal_eval(node.value)
                else:
                    bound.append(node.name)
            self.assertEqual(len(bound), len(set(bound)), name)

    def test_imports(self):
        defined = {}
        for name, _, tree in parsed():
            for node in tree.body:
                if isinstance(node, (ast.FunctionDef, ast.ClassDef)):
                    defined.setdefault("trustsorted." + name[:-3], []).append(node.name)
                elif isinstance(node, ast.Assign):
                    defined.setdefault("trustsorted." + name[:-3], []).append(node.targets[0].id)
        ahead = {}
        for name, _, tree in parsed():
            for node in ast.walk(tree):
                self.assertNotIsInstance(node, ast.Import, name)
                if isinstance(node, ast.ImportFrom):
                    self.assertEqual(node.level, 0, name)
                    ahead.setdefault("trustsorted." + name[:-3], []).append(node.module)
                    for told in node.names:
                        self.assertIsNone(told.asname, name)
                        self.assertIn(told.name, defined.get(node.module, []), name)
        self.assert_no_circle(ahead)

    def assert_no_circle(self, ahead):
        left = dict(ahead)
        while left:
            free = [name for name in left if not any(other in left for other in left[name])]
            self.assertTrue(free, left)
            for name in free:
                del left[name]

    def test_each_import_is_used_and_not_bound_again(self):
        for name, _, tree in parsed():
            told = [alias.name for node in tree.body if isinstance(node, ast.ImportFrom) for alias in node.names]
            classes = [node.name for node in tree.body if isinstance(node, ast.ClassDef)]
            used = {node.id for node in ast.walk(tree) if isinstance(node, ast.Name) and isinstance(node.ctx, ast.Load)}
            bound = {node.id for node in ast.walk(tree) if isinstance(node, ast.Name) and isinstance(node.ctx, ast.Store)}
            bound |= {node.arg for node in ast.walk(tree) if isinstance(node, ast.arg)}
            for word in told:
                self.assertIn(word, used, name)
            for word in told + classes:
                self.assertNotIn(word, bound, name)

    def test_names(self):
        for place, node in self.nodes(ast.Name, ast.arg, ast.FunctionDef, ast.ClassDef, ast.Attribute):
            word = getattr(node, "id", None) or getattr(node, "arg", None) or getattr(node, "attr", None) or node.name
            self.assertNotIn(word, BARRED, place)
            self.assertTrue(not word.startswith("__") or word in SPECIAL, place + word)
            is_load = isinstance(getattr(node, "ctx", None), ast.Load)
            if not isinstance(node, ast.Attribute) and not is_load and word != "_":
                self.assertFalse(hasattr(builtins, word) and word not in SPECIAL, place + " " + word)
            if isinstance(node, ast.Name) and is_load and hasattr(builtins, word):
                self.assertIn(word, BUILTINS, place)

    def test_words_that_stand_nowhere(self):
        for name, text, _ in parsed():
            self.assertIsNone(re.search(r"_wall|_WallAttr|\btype\b|\benum\b|\bABC\b|\(type\)|metaclass=|Meta", text), name)

    def test_expressions(self):
        for place, node in self.nodes(ast.GeneratorExp, ast.Await, ast.Yield, ast.YieldFrom, ast.NamedExpr, ast.Starred):
            self.fail(place)
        for place, node in self.nodes(ast.BinOp, ast.AugAssign):
            self.assertNotIsInstance(node.op, (ast.Div, ast.MatMult), place)
        for place, node in self.nodes(ast.Compare):
            for op, side in zip(node.ops, node.comparators):
                if isinstance(op, (ast.Is, ast.IsNot)):
                    self.assertTrue(isinstance(side, ast.Constant) and side.value in (None, True, False), place)

    def test_literals(self):
        for place, node in self.nodes(ast.Constant):
            self.assertNotIsInstance(node.value, (float, complex, bytes), place)
            if isinstance(node.value, str):
                self.assertNotIn("%", node.value, place)
                self.assertFalse(node.value.endswith(("._", ".__")), place)

    def test_methods_of_values(self):
        own = {node.name for _, node in self.nodes(ast.FunctionDef)}
        for place, node in self.nodes(ast.Call):
            if isinstance(node.func, ast.Attribute):
                self.assertIn(node.func.attr, METHODS | own | {"__init__"}, place)

    def test_own_methods_and_attributes(self):
        methods, attributes = {}, {}
        for _, node in self.nodes(ast.ClassDef):
            for part in node.body:
                if isinstance(part, ast.FunctionDef):
                    methods.setdefault(part.name, node.name)
        for place, node in self.nodes(ast.Attribute):
            if isinstance(node.ctx, ast.Store):
                attributes.setdefault(node.attr, place)
        for word in list(methods) + list(attributes):
            self.assertTrue(word not in TAKEN or word in METHODS and word in methods, word)
        self.assertEqual(sorted(set(methods) & set(attributes)), [])

    def test_keyword_arguments_of_builtins(self):
        own = {node.name for _, node in self.nodes(ast.FunctionDef, ast.ClassDef)}
        for place, node in self.nodes(ast.Call):
            word = getattr(node.func, "id", getattr(node.func, "attr", ""))
            told = [keyword.arg for keyword in node.keywords]
            if word not in own and told:
                self.assertIn((word, tuple(told)), KEYWORDS, place)

    def test_sets_are_not_kept(self):
        allowed = set()
        for _, node in self.nodes(ast.Call):
            if getattr(node.func, "id", "") in ("sorted", "len"):
                allowed.update(id(part) for part in node.args)
        for place, node in self.nodes(ast.Call):
            if getattr(node.func, "id", "") == "set":
                self.assertTrue(id(node) in allowed, place)
        for place, node in self.nodes(ast.Set, ast.SetComp):
            self.fail(place)

    def test_what_is_read_backwards_is_a_list(self):
        """A class of the package has items by number, so only what is plainly no such object may be read backwards."""
        for place, node in self.nodes(ast.Call):
            if getattr(node.func, "id", "") == "reversed":
                self.assertIn(getattr(getattr(node.args[0], "func", None), "id", ""), ("list", "tuple", "sorted", "range"), place)

    def test_nothing_is_assigned_in_place(self):
        for place, node in self.nodes(ast.AugAssign):
            self.fail(place)

    def test_classes_with_items_by_number_cannot_be_gone_over(self):
        for place, node in self.nodes(ast.ClassDef):
            methods = {part.name: part for part in node.body if isinstance(part, ast.FunctionDef)}
            if "__getitem__" in methods:
                body = methods["__iter__"].body
                self.assertEqual([type(row) for row in body], [ast.Raise], place)
                self.assertEqual(body[0].exc.func.id, "TypeError", place)
            self.assertNotIn("keys", methods, place)

    def test_leaving_a_block(self):
        """Behind a block stand but plain assignments of attributes, and tests of None."""
        for place, node in self.nodes(ast.FunctionDef):
            if node.name == "__exit__":
                self.assertEqual([told.arg for told in node.args.args[1:2]], ["kind"], place)
                for row in node.body:
                    self.assert_plain(row, place)

    def assert_plain(self, row, place):
        if isinstance(row, ast.If):
            for part in ast.walk(row.test):
                self.assertIsInstance(
                    part, (ast.BoolOp, ast.And, ast.Or, ast.Compare, ast.Is, ast.IsNot, ast.Name, ast.Attribute, ast.Constant, ast.Load), place)
            for inner in row.body + row.orelse:
                self.assert_plain(inner, place)
        else:
            self.assertIsInstance(row, ast.Assign, place)
            self.assertIsInstance(row.value, ast.Attribute, place)
            self.assertEqual(row.value.value.id, "self", place)

    def test_attributes_that_are_read_are_assigned(self):
        own = {node.name for _, node in self.nodes(ast.FunctionDef)}
        assigned = {node.attr for _, node in self.nodes(ast.Attribute) if isinstance(node.ctx, ast.Store)}
        for place, node in self.nodes(ast.Attribute):
            if isinstance(node.ctx, ast.Load):
                self.assertIn(node.attr, assigned | own | METHODS | {"__init__"}, place)

    def test_errors_that_are_caught_are_the_own_ones(self):
        raised = {node.name for _, node in self.nodes(ast.ClassDef)}
        for place, node in self.nodes(ast.ExceptHandler):
            self.assertIn(node.type.id, raised, place)
            self.assertIsNone(node.name, place)
        for place, node in self.nodes(ast.Raise):
            self.assertIsInstance(node.exc, ast.Call, place)
            self.assertIn(node.exc.func.id, raised | {"TypeError"}, place)

    def test_arguments_of_own_functions(self):
        told = {}
        for name, _, tree in parsed():
            for node in tree.body:
                if isinstance(node, ast.FunctionDef):
                    told[node.name] = len(node.args.args) if not node.args.defaults else None
        for place, node in self.nodes(ast.Call):
            many = told.get(getattr(node.func, "id", ""))
            if many is not None:
                self.assertEqual((len(node.args), node.keywords), (many, []), place)

    def test_ranges_and_zips_are_gone_through_at_once(self):
        allowed = set()
        for _, node in self.nodes(ast.For, ast.comprehension):
            allowed.add(id(node.iter))
        for _, node in self.nodes(ast.Call):
            if getattr(node.func, "id", "") in ("list", "tuple", "dict", "sorted", "sum", "enumerate", "zip", "any", "all"):
                allowed.update(id(part) for part in node.args)
        for place, node in self.nodes(ast.Call):
            word = getattr(node.func, "id", "")
            if word in ("zip", "enumerate", "reversed", "range"):
                self.assertTrue(id(node) in allowed, place)


if __name__ == "__main__":
    unittest.main()
