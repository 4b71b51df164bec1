"""The subset of Python that the package keeps to, as far as it can be read off its files."""

import ast
import builtins
import io
import pathlib
import sys
import tokenize
import unittest

FOLDER = pathlib.Path(__file__).parent.parent / "stillranges"
FILES = sorted(path for path in FOLDER.iterdir() if path.name != "__pycache__")
BUILTINS = set(
    "len range enumerate zip min max sum abs sorted reversed int str bool list tuple dict set isinstance any all divmod "
    "ValueError True False None".split())
METHODS = set(
    "append clear copy count endswith extend find get index insert isalnum isalpha isdigit islower isspace isupper items "
    "join keys ljust lower lstrip partition pop remove replace reverse rfind rjust rpartition rsplit rstrip setdefault "
    "split splitlines startswith strip update upper values zfill bit_length".split())
BARRED_NODES = (
    ast.AsyncFunctionDef, ast.AsyncFor, ast.AsyncWith, ast.Await, ast.Yield, ast.YieldFrom, ast.GeneratorExp, ast.Global,
    ast.Nonlocal, ast.Lambda, ast.Try, ast.With, ast.Div, ast.Set, ast.SetComp, ast.Import, ast.AnnAssign, ast.Delete,
    ast.NamedExpr, ast.Assert, ast.Match)
BARRED_NAMES = set(
    "mro elements open input law version_info with_traceback add_note register attrgetter breakpoint builtins compile "
    "copyright credits delattr dir eval exec exit gc getattr globals hasattr help id importlib license locals "
    "methodcaller os quit setattr super type vars sys".split())
MODULE_LEVEL = (ast.ImportFrom, ast.FunctionDef, ast.ClassDef, ast.Assign)
FROM_LIBRARY = {"itertools": ["combinations"]}
DOUBLE = ("__init__", "__eq__")


def parsed(path):
    return ast.parse(path.read_text(encoding="utf-8"))


def docstrings(tree):
    found = []
    for node in ast.walk(tree):
        if isinstance(node, (ast.Module, ast.FunctionDef, ast.ClassDef)) and ast.get_docstring(node) is not None:
            found.append(node.body[0].value)
    return found


def bound_names(function):
    """The parameters and local variables of a function."""
    told = [argument.arg for argument in function.args.args]
    return told + [node.id for node in ast.walk(function) if isinstance(node, ast.Name) and isinstance(node.ctx, ast.Store)]


def functions_in(tree):
    """The functions and methods of a file."""
    return [node for node in ast.walk(tree) if isinstance(node, ast.FunctionDef)]


def methods_of(tree):
    """The names of the methods of the classes of a file."""
    return {part.name for node in tree.body if isinstance(node, ast.ClassDef) for part in node.body if hasattr(part, "name")}


def attributes_of(tree):
    """The names of the attributes that a file assigns."""
    return {node.attr for node in ast.walk(tree) if isinstance(node, ast.Attribute) and isinstance(node.ctx, ast.Store)}


class Language(unittest.TestCase):
    def each(self):
        return [(path, parsed(path)) for path in FILES]

    def test_files(self):
        self.assertLessEqual(len(FILES), 100)
        for path in FILES:
            self.assertRegex(path.name, r"^[a-z_0-9]+\.py$")
            self.assertNotIn(path.stem, sys.stdlib_module_names)
            self.assertNotIn(path.stem, BARRED_NAMES)
            self.assertFalse(hasattr(builtins, path.stem) and path.stem != "__init__", path.stem)

    def test_lines_and_signs(self):
        for path in FILES:
            text = path.read_text(encoding="utf-8")
            self.assertTrue(all(sign == "\n" or " " <= sign <= "~" for sign in text), path.name)
            self.assertLessEqual(len(text.splitlines()), 399)
            self.assertLessEqual(max(len(line) for line in text.splitlines()), 120, path.name)

    def test_functions_are_short(self):
        for path, tree in self.each():
            for node in ast.walk(tree):
                if isinstance(node, ast.FunctionDef):
                    self.assertLessEqual(node.end_lineno - node.lineno + 1, 40, node.name)
                    self.assertFalse(node.decorator_list or node.returns)
                    self.assertFalse(any(argument.annotation for argument in node.args.args))

    def test_statements_and_expressions(self):
        for path, tree in self.each():
            for node in ast.walk(tree):
                self.assertNotIsInstance(node, BARRED_NODES, getattr(node, "lineno", None))
                if isinstance(node, ast.Constant):
                    self.assertNotIsInstance(node.value, (float, complex, bytes))
                if isinstance(node, ast.Compare) and any(isinstance(sign, (ast.Is, ast.IsNot)) for sign in node.ops):
                    self.assertTrue(all(isinstance(right, ast.Constant) for right in node.comparators))
                if isinstance(node, ast.BinOp) and isinstance(node.op, ast.Pow):
                    self.assertIsInstance(node.right, ast.Constant)

    def test_module_level(self):
        for path, tree in self.each():
            for node in tree.body[1:]:
                self.assertIsInstance(node, MODULE_LEVEL)
                if isinstance(node, ast.Assign):
                    self.assertEqual(len(node.targets), 1)
                    ast.literal_eval(node.value)
            self.assertIsNotNone(ast.get_docstring(tree), path.name)
            bound = [node.name for node in tree.body if isinstance(node, (ast.FunctionDef, ast.ClassDef))]
            bound += [alias.name for node in tree.body if isinstance(node, ast.ImportFrom) for alias in node.names]
            bound += [node.targets[0].id for node in tree.body if isinstance(node, ast.Assign)]
            self.assertEqual(len(bound), len(set(bound)), path.name)

    def test_imports(self):
        ahead = {}
        for path, tree in self.each():
            used = {node.id for node in ast.walk(tree) if isinstance(node, ast.Name)}
            ahead[path.stem] = set()
            for node in ast.walk(tree):
                if isinstance(node, ast.ImportFrom) and node.module in FROM_LIBRARY:
                    for alias in node.names:
                        self.assertIn(alias.name, FROM_LIBRARY[node.module])
                        self.assertIsNone(alias.asname)
                        self.assertIn(alias.name, used)
                elif isinstance(node, ast.ImportFrom):
                    self.assertEqual((node.level, node.module.split(".")[0]), (0, "stillranges"))
                    self.assertIn(node, tree.body)
                    short = node.module.split(".")[1]
                    ahead[path.stem].add(short)
                    there = [part.name for part in parsed(FOLDER / f"{short}.py").body if hasattr(part, "name")]
                    there += [part.targets[0].id for part in parsed(FOLDER / f"{short}.py").body if isinstance(part, ast.Assign)]
                    for alias in node.names:
                        self.assertIsNone(alias.asname)
                        self.assertIn(alias.name, there)
                        self.assertIn(alias.name, used)
        done = set()
        while len(done) < len(ahead):
            free = {name for name in ahead if name not in done and ahead[name] <= done}
            self.assertTrue(free, "files import one another in a ring")
            done |= free

    def test_names(self):
        for path, tree in self.each():
            taken = {alias.name for node in tree.body if isinstance(node, ast.ImportFrom) for alias in node.names}
            classes = {node.name for node in tree.body if isinstance(node, ast.ClassDef)}
            known = taken | {node.name for node in tree.body if hasattr(node, "name")}
            known |= {node.targets[0].id for node in tree.body if isinstance(node, ast.Assign)}
            for node in ast.walk(tree):
                if isinstance(node, ast.FunctionDef):
                    bound = set(bound_names(node))
                    self.assertFalse(bound & (taken | classes), node.name)
                    self.assertTrue(node.name in DOUBLE or not node.name.startswith("__"), node.name)
                    if node.name not in DOUBLE:
                        bound.add(node.name)
                    self.assertFalse([name for name in bound if hasattr(builtins, name)])
                    self.assertFalse(bound & BARRED_NAMES)
                    loaded = {part.id for part in ast.walk(node) if isinstance(part, ast.Name)} - bound - known
                    self.assertLessEqual(loaded, BUILTINS, node.name)
                    self.assertNotIn("_", {part.id for part in ast.walk(node) if isinstance(part, ast.Name)
                                           and isinstance(part.ctx, ast.Load)})
                if isinstance(node, ast.Attribute):
                    self.assertIn(node.attr, METHODS | methods_of(tree) | attributes_of(tree))

    def test_strings(self):
        for path, tree in self.each():
            told = docstrings(tree)
            for node in ast.walk(tree):
                if isinstance(node, ast.Constant) and isinstance(node.value, str) and node not in told:
                    self.assertNotIn("%", node.value)
            for token in tokenize.generate_tokens(io.StringIO(path.read_text(encoding="utf-8")).readline):
                if token.type == tokenize.STRING:
                    self.assertNotRegex(token.string, r"\\[^nt\\\"']")

    def test_classes(self):
        for path, tree in self.each():
            for node in ast.walk(tree):
                if isinstance(node, ast.ClassDef):
                    self.assertIn(node, tree.body)
                    self.assertFalse(node.decorator_list or node.keywords)
                    for part in node.body:
                        self.assertTrue(isinstance(part, ast.FunctionDef) or ast.get_docstring(node) and part is node.body[0])
            self.assertFalse(methods_of(tree) & attributes_of(tree))
            for function in functions_in(tree):
                if function.name == "__eq__":
                    self.assertEqual(ast.unparse(function.body[0]).splitlines()[1].strip(), "return False")
                    self.assertRegex(ast.unparse(function.body[0]).splitlines()[0], r"^if not isinstance\(other, \w+\):$")

    def test_lists_are_sorted_by_sorted(self):
        """No .sort() beside a class that has an __eq__ of its own."""
        for path, tree in self.each():
            self.assertNotIn("sort", {node.attr for node in ast.walk(tree) if isinstance(node, ast.Attribute)})

    def test_sets_are_not_kept(self):
        for path, tree in self.each():
            inside = [part.args[0] for part in ast.walk(tree) if isinstance(part, ast.Call) and isinstance(
                part.func, ast.Name) and part.func.id in ("sorted", "len")]
            for node in ast.walk(tree):
                if isinstance(node, ast.Call) and isinstance(node.func, ast.Name) and node.func.id == "set":
                    self.assertIn(node, inside)
