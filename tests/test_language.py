"""What can be counted of the rules for the code: files, imports, names, sizes, signs, decorators, builtins, sets."""

import ast
import builtins
import os
import unittest

PACKAGE = os.path.join(os.path.dirname(os.path.dirname(os.path.abspath(__file__))), "onemember")
BUILTINS = (
    "len range enumerate zip min max sum abs sorted reversed int str bool bytes list tuple dict set frozenset isinstance"
    " ord repr any all divmod iter next super property staticmethod classmethod NotImplemented Exception ValueError"
    " TypeError KeyError IndexError LookupError ZeroDivisionError ArithmeticError OverflowError RuntimeError"
).split()
BARRED_NAMES = (
    "attrgetter breakpoint builtins compile copyright credits delattr dir eval exec exit gc getattr globals hasattr help"
    " id importlib license locals methodcaller os quit setattr super type vars sys"
).split()
BARRED_WORDS = (
    "register mro elements open input law version_info with_traceback add_note typing typing_extensions enum Enum Flag"
    " Generic Protocol ABC ABCMeta namedtuple NamedTuple TypedDict abstractmethod dataclass overload contextmanager"
).split()
METHODS = (
    "append clear copy count endswith extend find get index insert isalnum isalpha isdigit islower isspace isupper items join"
    " keys ljust lower lstrip partition pop remove replace reverse rfind rjust rpartition rsplit rstrip setdefault split"
    " splitlines startswith strip update upper values zfill bit_length isascii removeprefix add discard"
).split()
CHANGING = ("append", "extend", "pop", "insert", "remove", "clear", "update", "setdefault", "reverse")
AT_ONCE = ("zip", "enumerate", "reversed", "range")
TAKERS = ("list", "tuple", "dict", "sorted", "sum", "any", "all", "enumerate", "zip", "min", "max", "set", "len", "reversed")
COMPREHENSIONS = (ast.ListComp, ast.SetComp, ast.DictComp)


def sources():
    """The names and the texts of the files of the package."""
    found = []
    for name in sorted(os.listdir(PACKAGE)):
        if name != "__pycache__":
            with open(os.path.join(PACKAGE, name), encoding="utf-8") as file:
                found.append((name, file.read()))
    return found


def imported(tree):
    """The pairs (file, name) that a file imports."""
    return [(node.module.split(".")[1], alias.name)
            for node in tree.body if isinstance(node, ast.ImportFrom) for alias in node.names]


def bound(node):
    """The names that a function binds: parameters, variables and nested functions."""
    found = []
    for inner in ast.walk(node):
        if isinstance(inner, ast.arg):
            found.append(inner.arg)
        elif isinstance(inner, ast.Name) and not isinstance(inner.ctx, ast.Load):
            found.append(inner.id)
        elif isinstance(inner, ast.ExceptHandler) and inner.name:
            found.append(inner.name)
        elif isinstance(inner, ast.FunctionDef) and inner is not node:
            found.append(inner.name)
    return found


def same_names(function):
    """For each name of a function the names that one assignment or several make names of the same value."""
    groups = {}
    for node in ast.walk(function):
        if isinstance(node, ast.Assign):
            values = [node.value] if not isinstance(node.value, ast.IfExp) else [node.value.body, node.value.orelse]
            for one in [value for value in values if isinstance(value, ast.Name)]:
                for target in [target for target in node.targets if isinstance(target, ast.Name)]:
                    joined = groups.get(one.id, {one.id}) | groups.get(target.id, {target.id})
                    groups.update(dict.fromkeys(joined, joined))
    return groups


def walked(iterated, groups):
    """The names of what a loop goes over, unless it is a copy."""
    while isinstance(iterated, ast.Call) and iterated.args and ast.unparse(iterated.func) in ("enumerate", "zip", "reversed"):
        iterated = iterated.args[0]
    if isinstance(iterated, ast.Call) and isinstance(iterated.func, ast.Attribute):
        iterated = iterated.func.value
    name = ast.unparse(iterated)
    return groups.get(name, {name})


def changed_in(rows):
    """The names of what rows change by a method, an item or a deletion."""
    found = set()
    for node in [inner for row in rows for inner in ast.walk(row)]:
        if isinstance(node, ast.Call) and getattr(node.func, "attr", "") in CHANGING:
            found.add(ast.unparse(node.func.value))
        elif isinstance(node, ast.Subscript) and not isinstance(node.ctx, ast.Load):
            found.add(ast.unparse(node.value))
        elif isinstance(node, ast.AugAssign):
            found.add(ast.unparse(node.target))
    return found


class LanguageTest(unittest.TestCase):

    def setUp(self):
        self.trees = [(name, ast.parse(text)) for name, text in sources()]
        for _, tree in self.trees:
            for node in ast.walk(tree):
                for child in ast.iter_child_nodes(node):
                    child.above = node

    def nodes(self, *kinds):
        """All nodes of these kinds, with the place of each one."""
        return [(f"{name}:{getattr(node, 'lineno', 0)}", node)
                for name, tree in self.trees for node in ast.walk(tree) if isinstance(node, kinds)]

    def classes(self):
        return {node.name: node for _, node in self.nodes(ast.ClassDef)}

    def test_files(self):
        for name, text in sources():
            self.assertRegex(name, r"^([a-z][a-z0-9_]*|__init__)\.py$")
            self.assertLessEqual(len(text.splitlines()), 399, name)
            self.assertTrue(text.endswith("\n") and not text.endswith("\n\n"), name)
            for line in text.splitlines():
                self.assertLessEqual(len(line), 120, (name, line))
                self.assertTrue(all(" " <= sign <= "~" for sign in line), (name, line))
                self.assertEqual(line, line.rstrip(), (name, line))

    def test_functions_are_small(self):
        for place, node in self.nodes(ast.FunctionDef):
            self.assertLessEqual(node.end_lineno - node.lineno + 1, 40, place)
            self.assertTrue(ast.get_docstring(node) or node.name.startswith("__") or node.decorator_list, place)

    def test_imports_are_those_of_the_package_and_are_used(self):
        defined = {name[:-3]: [node.name for node in tree.body if isinstance(node, (ast.FunctionDef, ast.ClassDef))]
                   + [node.targets[0].id for node in tree.body if isinstance(node, ast.Assign)]
                   for name, tree in self.trees}
        for place, node in self.nodes(ast.Import, ast.ImportFrom):
            self.assertIsInstance(node, ast.ImportFrom, place)
            self.assertEqual((node.module.split(".")[0], node.level), ("onemember", 0))
            for alias in node.names:
                self.assertIn(alias.name, defined[node.module.split(".")[1]])
                self.assertIsNone(alias.asname)
        for name, tree in self.trees:
            used = [node.id for node in ast.walk(tree) if isinstance(node, ast.Name)]
            for _, what in imported(tree):
                self.assertIn(what, used, name)

    def test_no_circles_of_imports(self):
        needs = {name[:-3]: {file for file, _ in imported(tree)} for name, tree in self.trees}
        while needs:
            free = [name for name, others in needs.items() if not others & set(needs)]
            self.assertTrue(free, needs)
            needs = {name: others for name, others in needs.items() if name not in free}

    def test_each_name_is_bound_once_in_a_file(self):
        for name, tree in self.trees:
            top = [node.name for node in tree.body if isinstance(node, (ast.FunctionDef, ast.ClassDef))]
            top += [target.id for node in tree.body if isinstance(node, ast.Assign) for target in node.targets]
            top += [what for _, what in imported(tree)]
            self.assertEqual(len(top), len(set(top)), name)

    def test_names(self):
        for name, tree in self.trees:
            taken = {what for _, what in imported(tree)} | {node.name for node in tree.body if isinstance(node, ast.ClassDef)}
            for node in ast.walk(tree):
                if isinstance(node, (ast.FunctionDef, ast.Lambda)):
                    for what in bound(node):
                        self.assertNotIn(what, taken, name)
                        self.assertNotIn(what, dir(builtins), name)
                        self.assertNotIn(what, BARRED_NAMES, name)
                        self.assertRegex(what, r"^(_|_?[a-z][a-z0-9_]*)$", name)
                if isinstance(node, ast.FunctionDef) and isinstance(node.above, ast.Module):
                    self.assertNotIn(node.name, dir(builtins) + BARRED_NAMES, name)
                if isinstance(node, ast.Name) and isinstance(node.ctx, ast.Load):
                    self.assertNotEqual(node.id, "_", name)

    def test_words(self):
        for place, node in self.nodes(ast.AST):
            for field in ("id", "attr", "arg", "name", "value"):
                word = getattr(node, field, None)
                if isinstance(word, str) and "\n" not in word:
                    self.assertNotIn(word, BARRED_WORDS + ["type"], place)
        for name, text in sources():
            for word in ("(type)", "Meta", "metaclass", "_wall", "_WallAttr"):
                self.assertNotIn(word, text, name)

    def test_no_barred_statements(self):
        barred = (
            ast.Global, ast.AsyncFunctionDef, ast.Await, ast.Div, ast.Invert, ast.GeneratorExp, ast.AnnAssign, ast.NamedExpr,
            ast.Match, ast.YieldFrom,
        )
        self.assertEqual(self.nodes(*barred), [])
        for place, node in self.nodes(ast.Constant):
            self.assertNotIsInstance(node.value, float, place)
            self.assertNotIn("%", str(node.value), place)
        for place, node in self.nodes(ast.FunctionDef, ast.ClassDef):
            for mark in node.decorator_list:
                self.assertRegex(ast.unparse(mark), r"^(property|staticmethod|[a-z_]+\.setter)$", place)

    def test_builtins(self):
        for place, node in self.nodes(ast.Name):
            if isinstance(node.ctx, ast.Load) and node.id in dir(builtins):
                self.assertIn(node.id, BUILTINS, place)
                if node.id in ("sorted", "min", "max", "sum", "len", "set", "iter", "next") + AT_ONCE:
                    self.assertTrue(isinstance(node.above, ast.Call) and node.above.func is node, place)

    def test_methods_of_values_are_among_those_allowed(self):
        own = {node.name for _, node in self.nodes(ast.FunctionDef) if isinstance(node.above, ast.ClassDef)}
        for place, node in self.nodes(ast.Call):
            if isinstance(node.func, ast.Attribute):
                self.assertIn(node.func.attr, METHODS + list(own) + ["__init__"], place)

    def test_is_is_used_with_none_true_and_false(self):
        for place, node in self.nodes(ast.Compare):
            if any(isinstance(sign, (ast.Is, ast.IsNot)) for sign in node.ops):
                self.assertIsInstance(node.comparators[0], ast.Constant, place)

    def test_sets_stand_where_they_may(self):
        for place, node in self.nodes(ast.Call, ast.SetComp, ast.Set):
            if isinstance(node, ast.Call) and ast.unparse(node.func) != "set":
                continue
            above = node.above
            sorts = isinstance(above, ast.Call) and ast.unparse(above.func) in ("sorted", "len")
            self.assertTrue(sorts or isinstance(above, ast.Compare), place)

    def test_what_is_sorted_is_a_set_of_names(self):
        # Members compare by what they hold, so only what is plainly sorted by Python itself may be sorted.
        for place, node in self.nodes(ast.Call):
            if ast.unparse(node.func) in ("sorted", "min", "max"):
                self.assertRegex(ast.unparse(node.args[0]), r"^(set\(|\[len\([a-z]+\) for )", place)
                self.assertEqual(node.keywords, [], place)
            self.assertNotEqual(getattr(node.func, "attr", ""), "sort", place)

    def test_what_is_iterated_at_once(self):
        for place, node in self.nodes(ast.Call):
            name = ast.unparse(node.func)
            if name in AT_ONCE or getattr(node.func, "attr", "") in ("items", "keys", "values"):
                above = node.above
                taken = isinstance(above, ast.Call) and ast.unparse(above.func) in TAKERS
                kept = name == "range" and isinstance(above, ast.Assign)
                self.assertTrue(isinstance(above, (ast.For, ast.comprehension)) or taken or kept, place)

    def test_generators_are_not_used_as_values(self):
        for place, node in self.nodes(ast.Yield):
            self.assertIsInstance(node.above, ast.Expr, place)
        makers = [node.name for _, node in self.nodes(ast.FunctionDef) if any(isinstance(one, ast.Yield) for one in ast.walk(node))]
        self.assertEqual(makers, ["histories"])
        self.assertEqual([place for place, node in self.nodes(ast.Name) if node.id in makers], [])

    def test_errors_that_are_caught_are_own_ones(self):
        own = [name for name, node in self.classes().items() if "errors" in [file[:-3] for file, tree in self.trees if node in tree.body]]
        for place, node in self.nodes(ast.ExceptHandler):
            kinds = node.type.elts if isinstance(node.type, ast.Tuple) else [node.type]
            for kind in kinds:
                self.assertIn(kind.id, own, place)

    def test_methods_properties_and_attributes(self):
        assigned = {node.attr for _, node in self.nodes(ast.Attribute) if isinstance(node.ctx, ast.Store)}
        plain, properties = set(), set()
        for node in self.classes().values():
            seen = []
            for inner in node.body:
                if isinstance(inner, ast.FunctionDef):
                    marks = [ast.unparse(mark) for mark in inner.decorator_list]
                    (properties if "property" in marks else plain).add(inner.name)
                    seen.append((inner.name, any(mark.endswith(".setter") for mark in marks)))
            self.assertEqual(len(seen), len(set(seen)), node.name)
        settable = {"facts"}
        self.assertFalse(properties & (plain - settable))
        self.assertFalse(assigned & (plain - settable))
        self.assertEqual(assigned & properties, settable)
        self.assertFalse(properties & set(METHODS))

    def test_what_looks_at_an_object_changes_nothing(self):
        looks = ("__eq__", "__repr__", "__str__", "__len__", "__contains__", "__getitem__", "__iter__", "__bool__")
        for place, node in self.nodes(ast.FunctionDef):
            if node.name in looks or "property" in [ast.unparse(mark) for mark in node.decorator_list]:
                for inner in ast.walk(node):
                    self.assertNotIsInstance(inner, (ast.Assign, ast.AugAssign, ast.Delete), place)
                if node.name not in ("__getitem__",):
                    self.assertIsInstance(node.body[-1], ast.Return, place)

    def test_what_stands_in_a_finally_and_at_the_end_of_a_block(self):
        for place, node in self.nodes(ast.Try):
            for inner in node.finalbody:
                for part in ast.walk(inner):
                    self.assertNotIsInstance(part, (ast.Call, ast.BinOp, ast.Subscript, ast.Return, ast.Raise, ast.For), place)
        for place, node in self.nodes(ast.FunctionDef):
            if node.name == "__exit__":
                for inner in node.body:
                    self.assertIsInstance(inner, ast.Assign, place)
                    self.assertIsInstance(inner.value, ast.Attribute, place)

    def test_defaults_and_module_level_values_are_plain(self):
        for place, node in self.nodes(ast.FunctionDef):
            for value in node.args.defaults + [value for value in node.args.kw_defaults if value is not None]:
                self.assertIn(value.__class__, (ast.Constant, ast.Tuple), place)
                ast.literal_eval(value)
        for name, tree in self.trees:
            above = []
            for node in tree.body:
                above.append(getattr(node, "name", None))
                if isinstance(node, ast.Assign) and isinstance(getattr(node.value, "values", [None])[0], ast.Name):
                    # A table of functions.
                    for key, value in zip(node.value.keys, node.value.values):
                        self.assertIsInstance(ast.literal_eval(key), str, name)
                        self.assertIn(value.id, above, name)
                elif isinstance(node, ast.Assign):
                    ast.literal_eval(node.value)
                else:
                    self.assertIsInstance(node, (ast.ImportFrom, ast.FunctionDef, ast.ClassDef, ast.Expr), name)

    def test_no_stars_in_indexes(self):
        for place, node in self.nodes(ast.Subscript):
            self.assertFalse([part for part in ast.walk(node.slice) if isinstance(part, ast.Starred)], place)

    def test_stars_stand_before_names_in_calls(self):
        for place, node in self.nodes(ast.Call):
            for argument in node.args:
                if isinstance(argument, ast.Starred):
                    self.assertIsInstance(argument.value, (ast.Name, ast.Attribute), place)

    def test_what_a_loop_goes_over_is_not_changed_in_it(self):
        changing = CHANGING
        for place, node in self.nodes(ast.For):
            over = ast.unparse(node.iter)
            for inner in node.body:
                for part in ast.walk(inner):
                    if isinstance(part, ast.Call) and getattr(part.func, "attr", "") in changing:
                        self.assertNotIn(ast.unparse(part.func.value), over.replace("(", " ").replace(")", " ").split(), place)
        for place, node in self.nodes(*COMPREHENSIONS):
            for part in ast.walk(node):
                self.assertNotIn(getattr(getattr(part, "func", None), "attr", ""), changing, place)

    def test_what_a_loop_goes_over_is_not_changed_in_it_by_another_name(self):
        for place, node in self.nodes(ast.FunctionDef):
            for loop in ast.walk(node):
                if isinstance(loop, ast.For):
                    self.assertFalse(walked(loop.iter, same_names(node)) & changed_in(loop.body), place)
        wrong = ast.parse("def f(level):\n for _ in level:\n  longer = []\n  for way in level:\n   longer.append(way)\n  level = longer").body[0]
        self.assertTrue(walked(wrong.body[0].body[1].iter, same_names(wrong)) & changed_in(wrong.body[0].body[1].body))
