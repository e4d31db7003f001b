"""The form of the package's own files: the small part of Python that they keep to."""

import ast
import builtins
import functools
import pathlib
import re
import unittest

PACKAGE = pathlib.Path(__file__).resolve().parent.parent / "threetrees"
FILES = sorted(PACKAGE.glob("*.py"))

OWN_NAMES = set("""
    len range enumerate zip min max sum abs sorted reversed int str bool list tuple dict set frozenset isinstance ord
    repr any all divmod Exception ValueError TypeError KeyError IndexError LookupError ZeroDivisionError
    ArithmeticError OverflowError RuntimeError NotImplementedError AttributeError StopIteration
""".split())
METHODS = set("""
    append clear copy count endswith extend find get index insert isalnum isalpha isdigit islower isspace isupper items
    join keys ljust lower lstrip partition pop remove replace reverse rfind rjust rpartition rsplit rstrip setdefault
    split splitlines startswith strip update upper values zfill bit_length
""".split())
DUNDERS = {"__init__", "__eq__", "__repr__", "__str__", "__len__"}
WORDS = set("""
    type typing typing_extensions enum Enum IntEnum StrEnum Flag IntFlag Generic Protocol ABC ABCMeta namedtuple
    NamedTuple TypedDict TYPE_CHECKING abstractmethod
""".split())
NAMES = set("""
    register mro elements open input version_info with_traceback add_note attrgetter breakpoint builtins compile
    delattr dir eval exec exit gc getattr globals hasattr help id importlib locals methodcaller os quit setattr super
    vars sys chr print
""".split())
WALKING = ("list", "tuple", "dict", "sorted", "sum", "any", "all", "enumerate", "zip")
WALKED = ("zip", "enumerate", "reversed", "range")
CHANGING = set("append clear extend insert pop remove reverse setdefault update".split())
KEYWORDS = {"sorted": {"key", "reverse"}, "min": {"key", "default"}, "max": {"key", "default"}, "sum": {"start"},
            "enumerate": {"start"}, "zip": {"strict"}}
NODES = (
    ast.With, ast.Match, ast.Delete, ast.Global, ast.Nonlocal, ast.Assert, ast.Yield, ast.YieldFrom, ast.Await,
    ast.AsyncFunctionDef, ast.AsyncFor, ast.AsyncWith, ast.SetComp, ast.DictComp, ast.GeneratorExp, ast.NamedExpr,
    ast.Starred, ast.Div, ast.MatMult, ast.Import, ast.AnnAssign,
)


@functools.lru_cache(maxsize=None)
def nodes_of(path):
    return list(ast.walk(ast.parse(path.read_text(encoding="utf-8"))))


def top_of(path):
    return ast.parse(path.read_text(encoding="utf-8")).body


def defined_in(path):
    names = set()
    for node in top_of(path):
        if isinstance(node, (ast.FunctionDef, ast.ClassDef)):
            names.add(node.name)
        if isinstance(node, ast.Assign):
            names.add(node.targets[0].id)
    return names


def drawn_from(path):
    return [node.module for node in top_of(path) if isinstance(node, ast.ImportFrom)]


def classes_of_all():
    return [node for path in FILES for node in nodes_of(path) if isinstance(node, ast.ClassDef)]


def own_methods():
    return {node.name for made in classes_of_all() for node in made.body if isinstance(node, ast.FunctionDef)}


def parents_of(path):
    return {child: node for node in nodes_of(path) for child in ast.iter_child_nodes(node)}


def called(node):
    """The plain name that is called, if there is one."""
    return node.func.id if isinstance(node, ast.Call) and isinstance(node.func, ast.Name) else None


def is_walked_at_once(node, parent):
    if isinstance(parent, (ast.For, ast.comprehension)):
        return parent.iter is node
    if called(parent) in ("min", "max"):
        return len(parent.args) == 1
    return called(parent) in WALKING and parent.args[0] is node


def walked_by(walk):
    """The plain names of what a loop walks, itself or through Python's own."""
    if isinstance(walk, ast.Name):
        return {walk.id}
    if called(walk) in WALKED:
        return set().union(*[walked_by(thing) for thing in walk.args])
    if isinstance(walk, ast.Call) and isinstance(walk.func, ast.Attribute):
        return walked_by(walk.func.value)
    return set()


def is_only_read(node, parent):
    if isinstance(parent, ast.Subscript):
        return parent.value is node and isinstance(parent.ctx, ast.Load)
    if isinstance(parent, ast.Compare):
        return isinstance(parent.ops[0], (ast.In, ast.NotIn, ast.Eq, ast.NotEq))
    if isinstance(parent, ast.Attribute):
        return parent.attr in ("get", "items", "keys", "values", "index", "count")
    if isinstance(parent, (ast.For, ast.comprehension)):
        return parent.iter is node
    return called(parent) in ("len", "list", "dict", "tuple", "sorted")


class Files(unittest.TestCase):
    def test_nothing_but_plain_files_lies_there(self):
        self.assertTrue((PACKAGE / "__init__.py").is_file())
        for path in PACKAGE.iterdir():
            if path.name != "__pycache__":
                self.assertRegex(path.name, r"^([a-z][a-z0-9_]*|__init__|__main__)\.py$")

    def test_signs_and_sizes(self):
        for path in FILES:
            text = path.read_text(encoding="utf-8")
            self.assertEqual([sign for sign in text if sign != "\n" and not " " <= sign <= "~"], [])
            self.assertLessEqual(max(map(len, text.split("\n"))), 120)
            self.assertLessEqual(text.count("\n"), 400)
            self.assertEqual(WORDS & set(re.findall(r"\w+", text)), set())
            self.assertIsNone(re.search("dataclass|overload|contextmanager", text))

    def test_functions_are_small_and_plain(self):
        for path in FILES:
            for node in nodes_of(path):
                if isinstance(node, ast.FunctionDef):
                    self.assertLessEqual(node.end_lineno - node.lineno + 1, 40, node.name)
                    self.assertEqual(node.decorator_list, [])
                    self.assertIsNone(node.args.vararg or node.args.kwarg)
                    self.assertEqual(node.args.kwonlyargs + node.args.posonlyargs, [])

    def test_imports_are_the_packages_own_from_the_file_that_defines_the_name(self):
        for path in FILES:
            imports = [node for node in nodes_of(path) if isinstance(node, ast.ImportFrom)]
            self.assertEqual(len(imports), len(drawn_from(path)), "not at the top of " + path.name)
            for node in imports:
                folder, name = node.module.split(".")
                self.assertEqual((folder, node.level), ("threetrees", 0))
                for alias in node.names:
                    self.assertIn(alias.name, defined_in(PACKAGE / (name + ".py")))
                    self.assertIsNone(alias.asname)

    def test_no_two_files_draw_from_one_another(self):
        left = {f"threetrees.{path.stem}": set(drawn_from(path)) for path in FILES}
        while left:
            free = [name for name, drawn in left.items() if not drawn & set(left)]
            self.assertTrue(free, left)
            for name in free:
                left.pop(name)

    def test_statements_and_expressions(self):
        for path in FILES:
            for node in nodes_of(path):
                where = (path.name, getattr(node, "lineno", 0))
                self.assertNotIsInstance(node, NODES, where)
                if isinstance(node, ast.Assign):
                    self.assertEqual(len(node.targets), 1, where)
                if isinstance(node, (ast.For, ast.While)):
                    self.assertEqual(node.orelse, [], where)
                if isinstance(node, ast.Try):
                    self.assertEqual(node.finalbody, [], where)
                if isinstance(node, ast.ListComp):
                    self.assertEqual((len(node.generators), len(node.generators[0].ifs) <= 1), (1, True), where)
                if isinstance(node, ast.Constant):
                    self.assertIn(type(node.value), (int, str, bool, type(None)), where)

    def test_names(self):
        for path in FILES:
            for node in nodes_of(path):
                if isinstance(node, ast.Name):
                    where = (path.name, node.lineno, node.id)
                    self.assertNotIn(node.id, NAMES, where)
                    self.assertFalse(node.id.startswith("_"), where)
                    if hasattr(builtins, node.id):
                        self.assertIn(node.id, OWN_NAMES, where)
                        self.assertIsInstance(node.ctx, ast.Load, where)
                if isinstance(node, ast.arg):
                    self.assertFalse(hasattr(builtins, node.arg) or node.arg.startswith("_"), node.arg)
                if isinstance(node, ast.FunctionDef) and node.name.startswith("_"):
                    self.assertIn(node.name, DUNDERS)

    def test_names_are_bound_once_at_the_top(self):
        for path in FILES:
            bound = []
            for node in top_of(path):
                if isinstance(node, ast.ImportFrom):
                    bound.extend(alias.name for alias in node.names)
                elif isinstance(node, ast.Assign):
                    bound.append(node.targets[0].id)
                elif isinstance(node, (ast.FunctionDef, ast.ClassDef)):
                    bound.append(node.name)
                else:
                    self.assertIsInstance(node.value.value, str)
            self.assertEqual(len(bound), len(set(bound)))

    def test_lists_and_dicts_of_the_top_are_only_read(self):
        for path in FILES:
            tables = {node.targets[0].id for node in top_of(path)
                      if isinstance(node, ast.Assign) and isinstance(node.value, (ast.List, ast.Dict))}
            parents = parents_of(path)
            for node in nodes_of(path):
                if isinstance(node, ast.Name) and node.id in tables and isinstance(node.ctx, ast.Load):
                    self.assertTrue(is_only_read(node, parents[node]), (path.name, node.lineno))
            for node in top_of(path):
                if isinstance(node, ast.Assign):
                    within = [found for found in ast.walk(node.value) if isinstance(found, (ast.List, ast.Dict))]
                    self.assertLessEqual(len(within), 1, (path.name, node.lineno))

    def test_methods_that_are_called(self):
        allowed = METHODS | own_methods()
        for path in FILES:
            for node in nodes_of(path):
                if isinstance(node, ast.Call) and isinstance(node.func, ast.Attribute):
                    self.assertIn(node.func.attr, allowed, (path.name, node.lineno))

    def test_no_name_is_a_method_and_a_value(self):
        values = {node.attr for path in FILES for node in nodes_of(path)
                  if isinstance(node, ast.Attribute) and isinstance(node.ctx, ast.Store)}
        self.assertEqual(values & own_methods(), set())
        self.assertEqual(values & METHODS, set())

    def test_no_local_is_called_like_an_import_or_a_class_of_its_file(self):
        for path in FILES:
            taken = defined_in(path) | {alias.name for node in top_of(path) if isinstance(node, ast.ImportFrom)
                                        for alias in node.names}
            for made in nodes_of(path):
                if isinstance(made, (ast.FunctionDef, ast.Lambda)):
                    bound = {node.arg for node in ast.walk(made) if isinstance(node, ast.arg)}
                    bound |= {node.id for node in ast.walk(made)
                              if isinstance(node, ast.Name) and isinstance(node.ctx, ast.Store)}
                    self.assertEqual(bound & taken, set(), (path.name, made.lineno))

    def test_what_is_imported_is_used(self):
        for path in FILES:
            used = {node.id for node in nodes_of(path) if isinstance(node, ast.Name)}
            for node in top_of(path):
                if isinstance(node, ast.ImportFrom):
                    self.assertEqual({alias.name for alias in node.names} - used, set(), path.name)

    def test_is_stands_beside_none_true_and_false_alone(self):
        for path in FILES:
            for node in nodes_of(path):
                if isinstance(node, ast.Compare):
                    for sign, value in zip(node.ops, node.comparators):
                        if isinstance(sign, (ast.Is, ast.IsNot)):
                            self.assertIn(getattr(value, "value", 0), (None, True, False), (path.name, node.lineno))
                            self.assertIsInstance(value, ast.Constant)

    def test_pythons_own_are_called_and_walked_at_once(self):
        for path in FILES:
            parents = parents_of(path)
            for node in nodes_of(path):
                where = (path.name, getattr(node, "lineno", 0))
                if called(node) in WALKED or getattr(getattr(node, "func", 0), "attr", 0) in ("items", "keys", "values"):
                    self.assertTrue(is_walked_at_once(node, parents[node]), where)
                if called(node) == "set":
                    self.assertTrue(isinstance(parents[node], (ast.Compare, ast.BinOp))
                                    or called(parents[node]) in ("sorted", "len"), where)
                if isinstance(node, ast.Call):
                    names = {keyword.arg for keyword in node.keywords}
                    self.assertLessEqual(names, KEYWORDS.get(called(node), set()), where)
                if isinstance(node, ast.Name) and node.id in OWN_NAMES and node.id[0].islower():
                    parent = parents[node]
                    kept = not (isinstance(parent, ast.Call) and parent.func is node)
                    self.assertFalse(kept and not isinstance(parent, ast.keyword)
                                     and called(parent) != "isinstance", where)

    def test_what_a_loop_walks_is_not_changed_in_it(self):
        for path in FILES:
            for loop in nodes_of(path):
                if isinstance(loop, ast.For):
                    walked = walked_by(loop.iter)
                    for node in [found for part in loop.body for found in ast.walk(part)]:
                        where = (path.name, getattr(node, "lineno", 0))
                        if isinstance(node, ast.Attribute) and node.attr in CHANGING:
                            self.assertNotIn(getattr(node.value, "id", ""), walked, where)
                        if isinstance(node, ast.Subscript) and isinstance(node.ctx, ast.Store):
                            self.assertNotIn(getattr(node.value, "id", ""), walked, where)

    def test_texts_and_numbers(self):
        for path in FILES:
            for node in nodes_of(path):
                if isinstance(node, ast.Constant) and isinstance(node.value, str):
                    self.assertNotIn("%", node.value, (path.name, node.lineno))
                if isinstance(node, ast.BinOp) and isinstance(node.op, ast.Pow):
                    self.assertIsInstance(node.right, ast.Constant, (path.name, node.lineno))

    def test_classes_hold_methods_alone(self):
        for made in classes_of_all():
            self.assertLessEqual(len(made.bases), 1)
            self.assertEqual(made.decorator_list, [])
            for node in made.body:
                self.assertIsInstance(node, (ast.FunctionDef, ast.Pass))


if __name__ == "__main__":
    unittest.main()
