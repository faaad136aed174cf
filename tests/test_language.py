"""The package keeps to a small part of Python; this looks for what is easily written by mistake."""

import ast
import builtins
import pathlib
import unittest

import nestdeep

FOLDER = pathlib.Path(nestdeep.__file__).parent
FILES = {path.stem: path.read_text() for path in sorted(FOLDER.glob("*.py"))}
TREES = {name: ast.parse(text) for name, text in FILES.items()}
LIBRARY = {"heapq": {"heappush", "heappop", "heapify", "heapreplace", "heappushpop"},
           "math": {"gcd", "lcm", "isqrt", "comb", "perm", "factorial"}}
BUILTINS = set(
    "len range enumerate zip min max sum abs sorted reversed int str bool bytes list tuple dict set frozenset isinstance"
    " ord repr any all divmod iter next map NotImplemented".split())
ERRORS = {"ValueError", "LookupError", "RuntimeError", "ArithmeticError"}
METHODS = set(
    "append clear copy count endswith extend find get index insert isalnum isalpha isdigit islower isspace isupper items"
    " join keys ljust lower lstrip partition pop remove replace reverse rfind rjust rpartition rsplit rstrip setdefault"
    " split splitlines startswith strip update upper values zfill bit_length isascii removeprefix removesuffix".split())
DUNDERS = {"__init__", "__eq__", "__repr__", "__str__", "__len__", "__contains__", "__iter__"}
BARRED = set(
    "register mro elements open input law version_info with_traceback add_note compile copyright credits delattr dir eval"
    " exec exit gc getattr globals hasattr help id importlib license locals methodcaller os quit setattr super type vars"
    " sys".split())
BARRED_WORDS = ("typing", "enum", "Enum", "Flag", "Generic", "Protocol", "ABC", "namedtuple", "dataclass", "overload",
                "contextmanager", "_wall", "abstractmethod")


def walk(kind):
    """Each node of this kind in the package, with the name of its file."""
    return [(name, node) for name, tree in TREES.items() for node in ast.walk(tree) if isinstance(node, kind)]


def docstrings():
    found = set()
    for _, node in walk((ast.Module, ast.ClassDef, ast.FunctionDef)):
        if node.body and isinstance(node.body[0], ast.Expr) and isinstance(node.body[0].value, ast.Constant):
            found.add(id(node.body[0].value))
    return found


class Language(unittest.TestCase):
    def none(self, found):
        self.assertEqual([], [f"{name}:{getattr(node, 'lineno', node)}" for name, node in found])

    def test_files(self):
        self.assertEqual([], [path.name for path in FOLDER.iterdir() if path.suffix != ".py" and path.name != "__pycache__"])
        for name, text in FILES.items():
            self.assertTrue(all(sign == "\n" or " " <= sign <= "~" for sign in text), name)
            self.assertLess(len(text.split("\n")), 400, name)
            self.none((name, number) for number, row in enumerate(text.split("\n"), 1) if len(row) > 120)
            for word in BARRED_WORDS:
                self.assertNotRegex(text, rf"\b{word}\b", name)

    def test_size_of_functions(self):
        self.none((name, node) for name, node in walk(ast.FunctionDef) if node.end_lineno - node.lineno >= 40)

    def test_imports(self):
        defined = {name: {node.name for node in tree.body if isinstance(node, (ast.FunctionDef, ast.ClassDef))} | {
            node.targets[0].id for node in tree.body if isinstance(node, ast.Assign)} for name, tree in TREES.items()}
        edges = {name: set() for name in TREES}
        self.none(walk(ast.Import))
        for name, node in walk(ast.ImportFrom):
            where = f"{name}:{node.lineno}"
            self.assertEqual((node.level, [one for one in node.names if one.asname]), (0, []), where)
            self.assertIn(node, TREES[name].body, where)
            names = {one.name for one in node.names}
            if node.module in LIBRARY:
                self.assertLessEqual(names, LIBRARY[node.module], where)
                continue
            package, module = node.module.split(".")
            self.assertEqual(package, "nestdeep", where)
            self.assertLessEqual(names, defined[module], where)
            edges[name].add(module)
            used = {one.id for one in ast.walk(TREES[name]) if isinstance(one, ast.Name)}
            self.assertLessEqual(names, used, where)
        while edges:
            free = [name for name in edges if not edges[name] & set(edges)]
            self.assertTrue(free, f"files that import one another: {sorted(edges)}")
            for name in free:
                del edges[name]

    def test_module_level(self):
        for name, tree in TREES.items():
            for node in tree.body:
                docstring = isinstance(node, ast.Expr) and isinstance(node.value, ast.Constant)
                plain = isinstance(node, ast.Assign) and len(node.targets) == 1 and isinstance(node.targets[0], ast.Name)
                if plain:
                    calls = [one for one in ast.walk(node.value) if isinstance(one, (ast.Call, ast.Lambda, ast.Set))]
                    self.none((name, one) for one in calls)
                self.assertTrue(docstring or plain or isinstance(node, (ast.ImportFrom, ast.FunctionDef, ast.ClassDef)), node)

    def test_names(self):
        for name, tree in TREES.items():
            bound = {one.name for node in tree.body if isinstance(node, ast.ImportFrom) for one in node.names}
            bound |= {node.name for node in tree.body if isinstance(node, ast.ClassDef)}
            for node in ast.walk(tree):
                if isinstance(node, ast.arg):
                    said = node.arg
                elif isinstance(node, ast.Name) and isinstance(node.ctx, ast.Store):
                    said = node.id
                elif isinstance(node, ast.ExceptHandler):
                    said = node.name or "_"
                else:
                    continue
                where = f"{name}:{node.lineno} {said}"
                self.assertFalse(said in dir(builtins) or said in BARRED or said in bound, where)
            for node in ast.walk(tree):
                if isinstance(node, (ast.FunctionDef, ast.ClassDef)):
                    self.assertFalse(node.name in BARRED or node.name in BUILTINS, node.name)
                    self.assertTrue(not node.name.startswith("__") or node.name in DUNDERS, node.name)
                    self.assertFalse(node.name.startswith(("_pe_", "_dcw_", "_enum_", "_cm_", "_lay_", "_law_", "_stub_", "_sre")))

    def test_builtins_and_methods(self):
        own = {node.name for _, node in walk(ast.FunctionDef)}
        stored = {node.attr for _, node in walk(ast.Attribute) if isinstance(node.ctx, ast.Store)}
        values = {target.id for _, node in walk(ast.ClassDef) for part in node.body if isinstance(part, ast.Assign)
                  for target in part.targets}
        for name, node in walk(ast.Name):
            if node.id in dir(builtins):
                self.assertIn(node.id, BUILTINS | (ERRORS if name == "errors" else set()) | {"classmethod", "property"},
                              f"{name}:{node.lineno}")
        for name, node in walk(ast.Attribute):
            self.assertIn(node.attr, METHODS | own | stored | values, f"{name}:{node.lineno}")

    def test_attributes_and_methods_have_different_names(self):
        methods, attributes = set(), set()
        for _, node in walk(ast.ClassDef):
            methods |= {part.name for part in node.body if isinstance(part, ast.FunctionDef)}
            attributes |= {one.attr for one in ast.walk(node) if isinstance(one, ast.Attribute) and isinstance(one.ctx, ast.Store)}
        self.assertEqual(methods & attributes, set())
        self.assertEqual((methods | attributes) & set(dir(str) + dir(list) + dir(dict) + dir(set) + dir(int)) - DUNDERS, set())

    def test_properties(self):
        properties, others, attributes = set(), set(), set()
        for _, node in walk(ast.ClassDef):
            for part in node.body:
                if isinstance(part, ast.FunctionDef):
                    is_property = any(isinstance(one, ast.Name) and one.id == "property" for one in part.decorator_list)
                    (properties if is_property else others).add(part.name)
            attributes |= {one.attr for one in ast.walk(node) if isinstance(one, ast.Attribute) and isinstance(one.ctx, ast.Store)}
        self.assertEqual(properties & (others | attributes), set())
        self.assertEqual(properties, {"callbacks", "endless", "terms", "returns", "kinds"})

    def test_what_a_loop_goes_over_is_not_changed_in_it(self):
        changing = {"append", "extend", "insert", "pop", "remove", "reverse", "clear", "update", "setdefault"}
        for name, node in walk(ast.For):
            over = {ast.dump(one) for one in ast.walk(node.iter) if isinstance(one, (ast.Name, ast.Attribute))}
            for part in node.body + node.orelse:
                for one in ast.walk(part):
                    if isinstance(one, ast.Call) and isinstance(one.func, ast.Attribute) and one.func.attr in changing:
                        self.assertNotIn(ast.dump(one.func.value), over, f"{name}:{one.lineno}")
                    if isinstance(one, ast.Subscript) and isinstance(one.ctx, (ast.Store, ast.Del)):
                        self.assertNotIn(ast.dump(one.value), over, f"{name}:{one.lineno}")

    def test_no_field_is_changed_in_a_loop_over_what_a_call_gave(self):
        changing = {"append", "extend", "insert", "pop", "remove", "reverse", "clear", "update", "setdefault"}
        for name, function in walk(ast.FunctionDef):
            given = {target.id for node in ast.walk(function) if isinstance(node, ast.Assign)
                     and any(isinstance(one, ast.Call) for one in ast.walk(node.value))
                     for target in node.targets if isinstance(target, ast.Name)}
            for loop in ast.walk(function):
                if not (isinstance(loop, ast.For) and isinstance(loop.iter, ast.Name) and loop.iter.id in given):
                    continue
                for node in [one for part in loop.body + loop.orelse for one in ast.walk(part)]:
                    changed = node if isinstance(node, (ast.Attribute, ast.Subscript)) and not isinstance(node.ctx, ast.Load) else None
                    if isinstance(node, ast.Call) and isinstance(node.func, ast.Attribute) and node.func.attr in changing:
                        changed = node.func.value
                    while isinstance(changed, ast.Subscript):
                        changed = changed.value
                    self.assertNotIsInstance(changed, ast.Attribute, f"{name}:{node.lineno}" if changed else "")

    def test_statements_and_expressions_that_are_not_used(self):
        self.none(walk((ast.Global, ast.AsyncFunctionDef, ast.Await, ast.GeneratorExp, ast.Set, ast.SetComp, ast.AnnAssign,
                        ast.Div, ast.MatMult, ast.With, ast.Match)))
        self.none((name, node) for name, node in walk(ast.Constant) if isinstance(node.value, (float, complex)))
        self.none((name, node) for name, node in walk((ast.FunctionDef, ast.ClassDef)) for one in node.decorator_list
                  if not (isinstance(one, ast.Name) and one.id in ("classmethod", "property")))
        self.none((name, node) for name, node in walk(ast.arg) if node.annotation)

    def test_identity_only_with_none_and_bools(self):
        for name, node in walk(ast.Compare):
            for operator, right in zip(node.ops, node.comparators):
                if isinstance(operator, (ast.Is, ast.IsNot)):
                    self.assertIsInstance(right, ast.Constant, f"{name}:{node.lineno}")

    def test_strings(self):
        told = docstrings()
        for name, node in walk(ast.Constant):
            if isinstance(node.value, str) and id(node) not in told:
                self.assertNotIn(chr(37), node.value, f"{name}:{node.lineno}")
                self.assertNotIn("__", node.value, f"{name}:{node.lineno}")

    def test_sets_stay_where_they_are(self):
        allowed = set()
        for _, node in walk(ast.Call):
            if isinstance(node.func, ast.Name) and node.func.id in ("sorted", "len") and not node.keywords:
                allowed |= {id(one) for one in ast.walk(node.args[0])}
        for _, node in walk(ast.Assign):
            if len(node.targets) == 1 and isinstance(node.targets[0], ast.Name):
                allowed.add(id(node.value))
        self.none((name, node) for name, node in walk(ast.Call)
                  if isinstance(node.func, ast.Name) and node.func.id == "set" and id(node) not in allowed)

    def test_only_own_errors_are_caught(self):
        own = {node.name for name, node in walk(ast.ClassDef) if name == "errors"}
        for name, node in walk(ast.ExceptHandler):
            self.assertIn(node.type.id, own, f"{name}:{node.lineno}")
        for name, node in walk(ast.Raise):
            self.assertTrue(isinstance(node.exc, ast.Call) and node.exc.func.id in own, f"{name}:{node.lineno}")

    def test_stars_only_in_calls_of_own_functions(self):
        for name, node in walk(ast.Call):
            starred = [one for one in node.args if isinstance(one, ast.Starred)]
            if starred and isinstance(node.func, ast.Name):
                self.assertFalse(node.func.id in BUILTINS - {"max", "min", "zip"} or node.func.id == "gcd", f"{name}:{node.lineno}")


if __name__ == "__main__":
    unittest.main()
