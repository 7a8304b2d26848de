"""What can be told by machine of the rules in LANGUAGE.md, for every file of the package."""

import ast
import builtins
import io
import pathlib
import tokenize
import unittest
import warnings

PACKAGE = pathlib.Path(__file__).resolve().parent.parent / "waterbyturns"
FILES = sorted(path for path in PACKAGE.rglob("*") if path.is_file() and "__pycache__" not in path.parts)

BUILTINS = set("""len range enumerate zip min max sum abs sorted reversed int str bool bytes list tuple dict set
    isinstance ord repr any all divmod map iter next property staticmethod classmethod super NotImplemented
    ValueError TypeError KeyError StopIteration""".split())
METHODS = set("""append clear copy count endswith extend find get index insert isalnum isalpha isdigit islower isspace
    isupper items join keys ljust lower lstrip partition pop remove replace reverse rfind rjust rpartition rsplit
    rstrip setdefault split splitlines startswith strip update upper values zfill bit_length add discard""".split())
WORDS = set("""type typing typing_extensions enum Enum IntEnum StrEnum Flag IntFlag Generic Protocol ABC ABCMeta
    namedtuple NamedTuple TypedDict TYPE_CHECKING abstractmethod register mro elements open input law version_info
    with_traceback add_note""".split())
OPERATORS = set("""__init__ __eq__ __repr__ __str__ __len__ __call__ __iter__ __lt__ __le__ __gt__ __ge__ __ne__
    __add__ __radd__ __and__ __or__ __contains__ __getitem__ __bool__""".split())
STATEMENTS = (ast.Assign, ast.AugAssign, ast.If, ast.While, ast.For, ast.Return, ast.Break, ast.Continue, ast.Pass,
              ast.Raise, ast.Assert, ast.Delete, ast.Try, ast.Expr, ast.FunctionDef, ast.ClassDef, ast.ImportFrom)
LIBRARY = {"heapq": {"heappush", "heappop", "heapify"}, "math": {"gcd", "lcm"}}


def tree_of(path):
    return ast.parse(path.read_text(encoding="utf-8"))


def all_nodes(kind):
    for path in FILES:
        for node in ast.walk(tree_of(path)):
            if isinstance(node, kind):
                yield f"{path.name}:{getattr(node, 'lineno', 0)}", node


def bound_names():
    for where, node in all_nodes((ast.Name, ast.arg, ast.FunctionDef, ast.ClassDef)):
        if isinstance(node, ast.Name):
            if isinstance(node.ctx, ast.Store):
                yield where, node.id
        elif isinstance(node, ast.arg):
            yield where, node.arg
        else:
            yield where, node.name


class FilesTest(unittest.TestCase):
    def test_files_and_characters(self):
        self.assertTrue(FILES)
        for path in FILES:
            self.assertEqual(path.suffix, ".py", path)
            text = path.read_text(encoding="utf-8")
            self.assertTrue(all(" " <= sign <= "~" or sign == "\n" for sign in text), path)
            lines = text.splitlines()
            self.assertLessEqual(len(lines), 399, path)
            self.assertLessEqual(max(map(len, lines), default=0), 120, path)

    def test_python_has_no_warning(self):
        with warnings.catch_warnings():
            warnings.simplefilter("error")
            for path in FILES:
                compile(path.read_text(encoding="utf-8"), str(path), "exec")

    def test_functions_have_at_most_40_lines(self):
        for where, node in all_nodes(ast.FunctionDef):
            self.assertLessEqual(node.end_lineno - node.lineno + 1, 40, where)

    def test_words_that_do_not_occur(self):
        for path in FILES:
            text = path.read_text(encoding="utf-8")
            for token in tokenize.generate_tokens(io.StringIO(text).readline):
                if token.type == tokenize.NAME:
                    self.assertNotIn(token.string, WORDS, f"{path.name}:{token.start[0]}")


class ImportsTest(unittest.TestCase):
    def test_imports_come_from_the_files_that_define_the_names(self):
        for where, node in all_nodes((ast.Import, ast.ImportFrom)):
            self.assertIsInstance(node, ast.ImportFrom, where)
            self.assertEqual(node.level, 0, where)
            names = {alias.name for alias in node.names}
            self.assertFalse([alias for alias in node.names if alias.asname], where)
            if node.module in LIBRARY:
                self.assertLessEqual(names, LIBRARY[node.module], where)
                continue
            self.assertTrue(node.module.startswith("waterbyturns."), where)
            source = tree_of(PACKAGE / f"{node.module.split('.')[1]}.py")
            defined = {part.name for part in source.body if isinstance(part, (ast.FunctionDef, ast.ClassDef))}
            for part in source.body:
                if isinstance(part, ast.Assign):
                    defined |= {target.id for target in part.targets}
            self.assertLessEqual(names, defined, where)

    def test_files_do_not_import_from_each_other(self):
        uses = {path.stem: set() for path in FILES}
        for path in FILES:
            for node in ast.walk(tree_of(path)):
                if isinstance(node, ast.ImportFrom) and node.module not in LIBRARY:
                    uses[path.stem].add(node.module.split(".")[1])
        while uses:
            free = [name for name in uses if not uses[name] & set(uses)]
            self.assertTrue(free, uses)
            uses = {name: uses[name] for name in uses if name not in free}


class StatementsTest(unittest.TestCase):
    def test_only_listed_statements(self):
        for where, node in all_nodes(ast.stmt):
            self.assertIsInstance(node, STATEMENTS, where)

    def test_module_level(self):
        for path in FILES:
            for node in tree_of(path).body:
                self.assertIsInstance(node, (ast.Expr, ast.ImportFrom, ast.FunctionDef, ast.ClassDef, ast.Assign))
                if isinstance(node, ast.Expr):
                    self.assertIsInstance(node.value, ast.Constant, path)
                if isinstance(node, ast.Assign):
                    self.assertEqual(len(node.targets), 1, path)

    def test_decorators(self):
        for where, node in all_nodes((ast.FunctionDef, ast.ClassDef)):
            for decorator in node.decorator_list:
                text = ast.unparse(decorator)
                self.assertTrue(text in ("property", "staticmethod") or text == f"{node.name}.setter", where)

    def test_no_floats_divisions_powers_and_generator_expressions(self):
        for where, node in all_nodes((ast.Constant, ast.BinOp, ast.AugAssign, ast.GeneratorExp)):
            self.assertNotIsInstance(node, ast.GeneratorExp, where)
            if isinstance(node, ast.Constant):
                self.assertNotIsInstance(node.value, (float, complex), where)
                self.assertNotIn("%", str(node.value), where)
            else:
                self.assertNotIsInstance(node.op, (ast.Div, ast.Pow, ast.MatMult), where)

    def test_is_stands_beside_none_true_and_false(self):
        for where, node in all_nodes(ast.Compare):
            for operator, right in zip(node.ops, node.comparators):
                if isinstance(operator, (ast.Is, ast.IsNot)):
                    self.assertIn(ast.unparse(right), ("None", "True", "False"), where)

    def test_stars_in_calls_stand_before_names_and_attributes(self):
        for where, node in all_nodes(ast.Call):
            for value in node.args:
                if isinstance(value, ast.Starred):
                    self.assertIsInstance(value.value, (ast.Name, ast.Attribute), where)


class NamesTest(unittest.TestCase):
    def test_no_name_of_a_builtin_is_given_another_meaning(self):
        for where, name in bound_names():
            if name not in OPERATORS:
                self.assertFalse(hasattr(builtins, name), f"{where} {name}")
                self.assertFalse(name.startswith("__"), f"{where} {name}")

    def test_no_name_in_a_function_is_that_of_a_class_or_an_import_of_its_file(self):
        for path in FILES:
            tree, taken = tree_of(path), set()
            for node in tree.body:
                if isinstance(node, ast.ClassDef):
                    taken.add(node.name)
                if isinstance(node, ast.ImportFrom):
                    taken |= {alias.name for alias in node.names}
            for node in ast.walk(tree):
                name = node.arg if isinstance(node, ast.arg) else node.id if isinstance(node, ast.Name) else ""
                if isinstance(node, ast.arg) or isinstance(getattr(node, "ctx", None), ast.Store):
                    self.assertNotIn(name, taken, f"{path.name}:{node.lineno}")

    def test_no_name_is_a_method_and_an_attribute(self):
        methods = {part.name for _, node in all_nodes(ast.ClassDef) for part in node.body
                   if isinstance(part, ast.FunctionDef) and not part.decorator_list}
        stored = {node.attr for _, node in all_nodes(ast.Attribute) if isinstance(node.ctx, ast.Store)}
        self.assertFalse(methods & stored)

    def test_no_other_function_has_the_name_of_a_generator(self):
        names = [node.name for _, node in all_nodes(ast.FunctionDef)]
        for where, node in all_nodes(ast.FunctionDef):
            if any(isinstance(part, (ast.Yield, ast.YieldFrom)) for part in ast.walk(node)):
                self.assertEqual(names.count(node.name), 1, where)

    def test_methods_with_keywords_have_no_name_of_a_builtin_method(self):
        for where, node in all_nodes(ast.FunctionDef):
            if node.args.kwonlyargs and node.name != "__init__":
                self.assertNotIn(node.name, METHODS, where)
                self.assertTrue(node.args.args, where)

    def test_only_listed_builtins_are_used(self):
        for where, node in all_nodes(ast.Name):
            if hasattr(builtins, node.id):
                self.assertIn(node.id, BUILTINS, where)

    def test_only_listed_methods_and_own_ones_are_called(self):
        own = {node.name for _, node in all_nodes(ast.FunctionDef)}
        for where, node in all_nodes(ast.Call):
            if isinstance(node.func, ast.Attribute):
                self.assertIn(node.func.attr, METHODS | own, where)

    def test_what_is_sorted_is_plainly_numbers_or_strings(self):
        for where, node in all_nodes(ast.Call):
            if isinstance(node.func, ast.Name) and node.func.id == "sorted":
                self.assertRegex(ast.unparse(node), r"^sorted\(\[(str|int|len)\(", where)
            if isinstance(node.func, ast.Name) and node.func.id in ("min", "max"):
                self.assertRegex(ast.unparse(node), r"\d+|len\(|int\(", where)


if __name__ == "__main__":
    unittest.main()
