"""Tests that the files of the package stay within the subset of Python that the program may use.

They cover those rules that are easy to see in a syntax tree; the rules themselves ask for more.
"""

import ast
import builtins
import pathlib
import re
import unittest
import warnings

PACKAGE = pathlib.Path(__file__).resolve().parent.parent / 'spareskept'
FILES = sorted(PACKAGE.rglob('*.py'))
ALLOWED_BUILTINS = set(
    'len range enumerate zip min max sum abs sorted reversed int str bool list tuple dict set isinstance repr any all '
    'Exception ValueError TypeError KeyError IndexError LookupError OverflowError RuntimeError'.split())
BARRED_NODES = (
    ast.AsyncFunctionDef, ast.Await, ast.Global, ast.Nonlocal, ast.Div, ast.MatMult, ast.Try, ast.With, ast.Import,
    ast.AnnAssign, ast.Starred, ast.Yield, ast.YieldFrom, ast.Assert,
)
BARRED_WORDS = re.compile(r'\b(typing|enum|Enum|Flag|Generic|Protocol|ABC|mro|elements|open|input|law|type)\b')
SPECIAL_METHODS = {'__init__', '__len__', '__str__', '__eq__'}
LIBRARY = {'heapq', 'math', 'itertools', 'collections'}


def trees():
    return [(path, ast.parse(path.read_text(encoding='utf-8'))) for path in FILES]


def bound_names(tree):
    """Yield each name that the file binds, wherever it is."""
    for node in ast.walk(tree):
        if isinstance(node, ast.Name) and not isinstance(node.ctx, ast.Load):
            yield node.id
        elif isinstance(node, ast.arg):
            yield node.arg
        elif isinstance(node, (ast.FunctionDef, ast.ClassDef)):
            yield node.name


def imported_names(tree):
    return [alias.name for node in tree.body if isinstance(node, ast.ImportFrom) for alias in node.names]


def module_names(tree):
    """Return the names bound at module level, once for each binding."""
    names = imported_names(tree)
    for node in tree.body:
        if isinstance(node, (ast.FunctionDef, ast.ClassDef)):
            names.append(node.name)
        elif isinstance(node, ast.Assign):
            names += [target.id for target in node.targets]
    return names


class FilesTest(unittest.TestCase):
    def test_folder(self):
        for path in PACKAGE.rglob('*'):
            if '__pycache__' not in path.parts:
                self.assertTrue(path.is_dir() or re.fullmatch(r'[a-z0-9_]+\.py', path.name), path)
                self.assertFalse(path.is_dir() and not (path / '__init__.py').exists(), path)

    def test_text(self):
        for path in FILES:
            text = path.read_bytes()
            lines = text.decode('ascii').splitlines()
            self.assertLessEqual(len(lines), 399, path)
            self.assertLessEqual(max(map(len, lines)), 120, path)
            self.assertTrue(all(byte == 10 or 32 <= byte <= 126 for byte in text), path)
            self.assertIsNone(BARRED_WORDS.search(text.decode('ascii')), path)

    def test_compiles_without_a_warning(self):
        for path in FILES:
            with warnings.catch_warnings():
                warnings.simplefilter('error')
                compile(path.read_text(encoding='utf-8'), str(path), 'exec')


class SyntaxTest(unittest.TestCase):
    def test_module_level(self):
        for path, tree in trees():
            for node in tree.body:
                docstring = isinstance(node, ast.Expr) and isinstance(node.value, ast.Constant)
                self.assertTrue(docstring or isinstance(
                    node, (ast.ImportFrom, ast.FunctionDef, ast.ClassDef, ast.Assign)), (path, node.lineno))
            names = module_names(tree)
            self.assertEqual(len(names), len(set(names)), path)

    def test_imports(self):
        for path, tree in trees():
            for node in ast.walk(tree):
                if isinstance(node, ast.ImportFrom) and node.module not in LIBRARY:
                    self.assertEqual(node.level, 0, path)
                    source = PACKAGE.parent.joinpath(*node.module.split('.')).with_suffix('.py')
                    self.assertIn(source, FILES)
                    defined = ast.parse(source.read_text(encoding='utf-8'))
                    for alias in node.names:
                        self.assertIsNone(alias.asname)
                        self.assertIn(alias.name, module_names(defined), path)
                        self.assertNotIn(alias.name, imported_names(defined), path)

    def test_nodes(self):
        for path, tree in trees():
            for node in ast.walk(tree):
                self.assertNotIsInstance(node, BARRED_NODES, (path, getattr(node, 'lineno', 0)))
                if isinstance(node, ast.Constant):
                    self.assertNotIsInstance(node.value, (float, complex), path)
                    self.assertFalse(isinstance(node.value, str) and '%' in node.value, path)
                if isinstance(node, ast.FunctionDef):
                    self.assertLessEqual(node.end_lineno - node.lineno + 1, 40, (path, node.name))
                    self.assertEqual(node.decorator_list, [], (path, node.name))
                    self.assertTrue(ast.get_docstring(node) or node.name in SPECIAL_METHODS, (path, node.name))
                if isinstance(node, ast.Compare) and any(isinstance(sign, (ast.Is, ast.IsNot)) for sign in node.ops):
                    self.assertIsInstance(node.comparators[0], ast.Constant, (path, node.lineno))

    def test_classes(self):
        for path, tree in trees():
            for owner in tree.body:
                if isinstance(owner, ast.ClassDef):
                    methods = [node.name for node in owner.body if isinstance(node, ast.FunctionDef)]
                    self.assertEqual(len(methods), len(set(methods)), (path, owner.name))
                    for node in ast.walk(owner):
                        if isinstance(node, ast.Attribute) and isinstance(node.ctx, ast.Store):
                            self.assertNotIn(node.attr, methods, (path, owner.name))
                        if isinstance(node, ast.FunctionDef) and node.name == '__eq__':
                            first = f'if not isinstance(other, {owner.name}):\n    return False'
                            self.assertEqual(ast.unparse(node.body[0]), first, path)

    def test_special_methods(self):
        for path, tree in trees():
            for node in ast.walk(tree):
                if isinstance(node, ast.FunctionDef) and node.name in ('__len__', '__str__'):
                    returned = [part.value for part in ast.walk(node) if isinstance(part, ast.Return)]
                    self.assertTrue(returned and isinstance(node.body[-1], ast.Return), (path, node.name))
                    for value in returned:
                        shown = ast.unparse(value)
                        self.assertRegex(shown, r'^len\(' if node.name == '__len__' else "^f['\"]", path)

    def test_iterations(self):
        for path, tree in trees():
            for node in ast.walk(tree):
                self.assertNotIsInstance(node, ast.GeneratorExp, (path, getattr(node, 'lineno', 0)))

    def test_names(self):
        for path, tree in trees():
            imported = imported_names(tree)
            for name in sorted(set(bound_names(tree)) - {'_'} - SPECIAL_METHODS):
                self.assertRegex(name, r'^_?[A-Za-z][A-Za-z0-9_]*$', path)
                self.assertFalse(hasattr(builtins, name), (path, name))
                self.assertNotIn(name, imported, path)

    def test_builtins(self):
        for path, tree in trees():
            known = set(bound_names(tree)) | set(module_names(tree))
            for node in ast.walk(tree):
                if isinstance(node, ast.Name) and node.id not in known:
                    self.assertIn(node.id, ALLOWED_BUILTINS, (path, node.lineno))


if __name__ == '__main__':
    unittest.main()
