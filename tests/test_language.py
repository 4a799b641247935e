"""The rules of the language that can be read off the files of the package one by one."""

import ast
import builtins
import pathlib
import unittest

PACKAGE = pathlib.Path(__file__).resolve().parent.parent / 'toldall'

BUILTINS = set('''len range enumerate zip min max sum abs sorted reversed int str bool list tuple dict set isinstance
    ord repr any all divmod iter property staticmethod classmethod super Exception ValueError TypeError KeyError
    NotImplemented'''.split())

METHODS = set('''append clear copy count endswith extend find get index insert isalnum isalpha isdigit islower isspace
    isupper items join keys ljust lower lstrip partition pop remove replace reverse rfind rjust rpartition rsplit rstrip
    setdefault split splitlines startswith strip update upper values zfill bit_length'''.split())

WORDS = set('''type typing typing_extensions enum Enum IntEnum StrEnum Flag IntFlag Generic Protocol ABC ABCMeta
    namedtuple NamedTuple TypedDict TYPE_CHECKING abstractmethod register mro elements open input law version_info
    breakpoint compile copyright credits dir eval exec exit gc globals help id license locals os quit sys vars'''.split())

MAGIC = set('''__init__ __eq__ __str__ __len__ __iter__ __call__ __enter__ __exit__ __add__ __radd__ __iadd__ __sub__
    __mod__ __floordiv__ __and__ __or__ __xor__ __rshift__ __invert__ __abs__ __contains__ __getitem__ __setitem__'''.split())

CHANGES = ('append', 'pop', 'extend', 'insert', 'remove', 'clear', 'update', 'setdefault', 'reverse')

BARRED = (ast.GeneratorExp, ast.Lambda, ast.AugAssign, ast.AsyncFunctionDef, ast.Global, ast.Nonlocal, ast.Match,
          ast.NamedExpr, ast.AnnAssign, ast.Import, ast.Div, ast.Delete, ast.With, ast.Await)


def files():
    return sorted(PACKAGE.glob('*.py'))


def trees():
    return [(path.stem, ast.parse(path.read_text())) for path in files()]


def functions(tree):
    return [node for node in ast.walk(tree) if isinstance(node, ast.FunctionDef)]


def bound_names(function):
    arguments = function.args
    names = [each.arg for each in arguments.args + arguments.kwonlyargs]
    names += [each.arg for each in (arguments.vararg, arguments.kwarg) if each]
    return names + [node.id for node in ast.walk(function) if isinstance(node, ast.Name)
                    and isinstance(node.ctx, ast.Store)]


def own_methods():
    """The names of the methods of the package's classes."""
    classes = [node for name, tree in trees() for node in tree.body if isinstance(node, ast.ClassDef)]
    return {node.name for each in classes for node in each.body if isinstance(node, ast.FunctionDef)}


class LanguageTest(unittest.TestCase):

    def test_files_and_lines(self):
        self.assertTrue((PACKAGE / '__init__.py').is_file())
        for path in PACKAGE.iterdir():
            if path.name != '__pycache__':
                self.assertRegex(path.name, r'\A[a-z_]+\.py\Z')
        for path in files():
            lines = path.read_text().split('\n')
            self.assertLessEqual(len(lines), 399, path.name)
            for line in lines:
                self.assertLessEqual(len(line), 120, (path.name, line))
                self.assertTrue(all(' ' <= sign <= '~' for sign in line), (path.name, line))

    def test_functions_are_small(self):
        for name, tree in trees():
            for function in functions(tree):
                self.assertLessEqual(function.end_lineno - function.lineno + 1, 40, (name, function.name))

    def test_module_level(self):
        kinds = (ast.ImportFrom, ast.FunctionDef, ast.ClassDef, ast.Assign, ast.Expr)
        for name, tree in trees():
            self.assertTrue(ast.get_docstring(tree), name)
            for k, node in enumerate(tree.body):
                self.assertIsInstance(node, kinds, name)
                self.assertTrue(k == 0 or not isinstance(node, ast.Expr), name)
                if isinstance(node, (ast.FunctionDef, ast.ClassDef)):
                    self.assertTrue(ast.get_docstring(node), (name, node.name))

    def test_imports_name_the_file_that_defines(self):
        defined, leads = {}, {}
        for name, tree in trees():
            defined[name] = [node.name for node in tree.body if isinstance(node, (ast.FunctionDef, ast.ClassDef))]
        for name, tree in trees():
            leads[name] = []
            for node in ast.walk(tree):
                if isinstance(node, ast.ImportFrom):
                    self.assertIn(node, tree.body)
                    self.assertEqual((node.level, node.module.split('.')[0]), (0, 'toldall'))
                    stem = node.module.split('.')[1]
                    leads[name].append(stem)
                    for each in node.names:
                        self.assertIsNone(each.asname)
                        self.assertIn(each.name, defined[stem], name)
        for name in leads:
            seen, waiting = set(), list(leads[name])
            while waiting:
                stem = waiting.pop()
                if stem not in seen:
                    seen.add(stem)
                    waiting += leads[stem]
            self.assertNotIn(name, seen)

    def test_imports_are_used(self):
        for name, tree in trees():
            used = {node.id for node in ast.walk(tree) if isinstance(node, ast.Name)}
            for node in tree.body:
                if isinstance(node, ast.ImportFrom):
                    for each in node.names:
                        self.assertIn(each.name, used, name)

    def test_barred_nodes_and_words(self):
        for name, tree in trees():
            for node in ast.walk(tree):
                self.assertNotIsInstance(node, BARRED, name)
                if isinstance(node, ast.Constant) and isinstance(node.value, str):
                    self.assertNotIn('%', node.value)
                if isinstance(node, ast.Constant):
                    self.assertNotIsInstance(node.value, (float, complex, bytes), name)
                if isinstance(node, (ast.Is, ast.IsNot)):
                    continue
                for word in (getattr(node, 'id', None), getattr(node, 'attr', None), getattr(node, 'arg', None)):
                    self.assertNotIn(word, WORDS, name)

    def test_is_stands_beside_none(self):
        for name, tree in trees():
            for node in ast.walk(tree):
                if isinstance(node, ast.Compare) and isinstance(node.ops[0], (ast.Is, ast.IsNot)):
                    self.assertIn(ast.unparse(node.comparators[0]), ('None', 'True', 'False'), name)

    def test_builtins_and_names(self):
        every = set(dir(builtins))
        for name, tree in trees():
            imports = {each.name for node in tree.body if isinstance(node, ast.ImportFrom) for each in node.names}
            classes = {node.name for node in tree.body if isinstance(node, ast.ClassDef)}
            for node in ast.walk(tree):
                if isinstance(node, ast.Name) and node.id in every:
                    self.assertIn(node.id, BUILTINS, name)
            for function in functions(tree):
                self.assertNotIn(function.name, every, name)
                for word in bound_names(function):
                    self.assertNotIn(word, every | imports | classes, (name, function.name))

    def test_methods(self):
        own = own_methods()
        self.assertFalse(own & METHODS)
        for name, tree in trees():
            for node in ast.walk(tree):
                if isinstance(node, ast.Call) and isinstance(node.func, ast.Attribute):
                    self.assertIn(node.func.attr, METHODS | MAGIC | own, name)
                    self.assertNotIn(node.func.attr, MAGIC - {'__init__'}, name)
                if isinstance(node, ast.FunctionDef) and node.name.startswith('__'):
                    self.assertIn(node.name, MAGIC, name)

    def test_loops_do_not_change_what_they_go_over(self):
        for name, tree in trees():
            for loop in ast.walk(tree):
                if not isinstance(loop, ast.For):
                    continue
                over = {node.id for node in ast.walk(loop.iter) if isinstance(node, ast.Name)}
                for node in [each for row in loop.body for each in ast.walk(row)]:
                    if isinstance(node, ast.Call) and isinstance(node.func, ast.Attribute):
                        if node.func.attr in CHANGES and isinstance(node.func.value, ast.Name):
                            self.assertNotIn(node.func.value.id, over, name)
                    if isinstance(node, ast.Name) and isinstance(node.ctx, ast.Store):
                        self.assertNotIn(node.id, over, name)
                    if isinstance(node, ast.Subscript) and isinstance(node.ctx, ast.Store):
                        self.assertNotIn(ast.unparse(node.value), over, name)

    def test_finally_and_exit_only_assign(self):
        found = 0
        for name, tree in trees():
            blocks = [node.finalbody for node in ast.walk(tree) if isinstance(node, ast.Try) and node.finalbody]
            blocks += [function.body for function in functions(tree) if function.name == '__exit__']
            for row in [row for block in blocks for row in block]:
                found += 1
                self.assertIsInstance(row, ast.Assign, name)
                for side in (*row.targets, row.value):
                    self.assertIsInstance(side, (ast.Name, ast.Attribute), name)
        self.assertGreater(found, 0)

    def test_functions_in_tables_are_named_before_they_are_called(self):
        for name, tree in trees():
            for node in ast.walk(tree):
                if isinstance(node, ast.Call):
                    self.assertIsInstance(node.func, (ast.Name, ast.Attribute), name)
                    for each in node.args:
                        if isinstance(each, ast.Starred):
                            self.assertIsInstance(each.value, ast.Name, name)

    def test_classes_with_items_are_iterated_or_refuse_it(self):
        for name, tree in trees():
            for node in tree.body:
                if isinstance(node, ast.ClassDef):
                    own = [row.name for row in node.body if isinstance(row, ast.FunctionDef)]
                    self.assertTrue('__iter__' in own or '__getitem__' not in own, (name, node.name))
