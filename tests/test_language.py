"""The rules of the language that a script can see, in so far as the package uses what they tell of."""

import ast
import builtins
import io
import keyword
import pathlib
import re
import tokenize
import unittest

PACKAGE = pathlib.Path(__file__).resolve().parent.parent / "splitcosts"
FILES = sorted(PACKAGE.rglob("*.py"))
LIBRARY = {"math": {"gcd", "lcm", "isqrt", "comb", "perm", "factorial"}, "heapq": {"heappush", "heappop", "heapify"},
           "itertools": {"product", "combinations", "permutations"}}
BUILTINS = {"len", "range", "enumerate", "zip", "min", "max", "sum", "abs", "sorted", "reversed", "int", "str", "bool",
            "list", "tuple", "dict", "isinstance", "repr", "any", "all", "divmod", "type", "ValueError", "TypeError"}
METHODS = {"append", "count", "extend", "index", "insert", "items", "join", "keys", "pop", "remove", "reverse", "values"}
STATEMENTS = (ast.Assign, ast.AugAssign, ast.If, ast.While, ast.For, ast.Return, ast.Break, ast.Continue, ast.Pass,
              ast.Raise, ast.Assert, ast.Expr, ast.FunctionDef)
BARRED_EVERYWHERE = {"mro", "elements", "open", "input", "law", "version_info", "with_traceback", "add_note", "register"}
BARRED_NAMES = {"attrgetter", "breakpoint", "builtins", "compile", "copyright", "credits", "delattr", "dir", "eval", "exec",
                "exit", "gc", "getattr", "globals", "hasattr", "help", "id", "importlib", "license", "locals",
                "methodcaller", "os", "quit", "setattr", "super", "type", "vars", "sys"}
BARRED_WORDS = ("typing", "typing_extensions", "enum", "Enum", "IntEnum", "StrEnum", "Flag", "IntFlag", "Generic",
                "Protocol", "ABC", "ABCMeta", "namedtuple", "NamedTuple", "TypedDict", "TYPE_CHECKING", "abstractmethod")
INTERFACE = {
    "errors": ["CostError", "InvalidForm", "InvalidTable", "InvalidSolver", "InvalidAid", "InvalidShare", "InvalidNumber",
               "InvalidAmount", "InvalidLot", "InvalidSmoother", "InvalidWeight", "TooMany", "InvalidRow", "InvalidRows",
               "InvalidMethod", "InvalidSplit", "InvalidLots", "InvalidTeam", "InvalidSpans", "InvalidParts",
               "InvalidLadder", "NotWhole", "NotSafe"],
    "tables": ["is_table", "worth", "signs", "squares", "low_row", "energy_product"],
    "aids": ["is_aid", "gap", "unsafe_row", "exact_aid", "smoother_aid", "step", "fall", "point_aids", "lot_aids"],
    "methods": ["error_table", "run", "turned", "there_and_back", "joined_table", "mean_table", "is_whole", "staying_error"],
    "splits": ["split_sum", "split_cost", "least_split", "least_cost", "best_price", "price_bound"],
    "factors": ["has_factor", "beyond", "factor_near", "ends_at_once"],
    "together": ["is_team", "exact_team", "summed_table", "is_whole_team", "team_cost", "least_team_cost", "team_split",
                 "team_prices", "has_ratios_from", "has_ratios_up_to", "least_ratio_near", "greatest_ratio_near",
                 "damped_table", "dies_with", "unfalling", "falls_to"],
    "colours": ["do_touch", "colours_of", "colouring"],
    "twospans": ["product_up_to", "product_near", "product_pair", "common_rows"],
    "inner": ["harmonic_rows", "outer_table", "extended", "ends_with"],
    "coarse": ["two_grids", "smoothed_table", "measure", "has_coarse_factor", "coarse_beyond", "coarse_factor_near",
               "least_count", "best_rows", "barring_rows", "best_factor_near"],
    "smoothers": ["is_smoother", "lower_smoother", "slant_smoother", "is_never_worse", "parting_rows"],
    "levels": ["is_ladder", "level_tables", "exact_round", "v_round", "w_round"],
    "checker": ["accepts"],
    "certificates": ["certify_positive", "certify_aid", "certify_whole", "certify_cost", "certify_factor",
                     "certify_ratios_from", "certify_ratios_up_to", "certify_damping", "certify_product", "certify_end",
                     "certify_coarse", "certify_best", "certify_smoothers"],
}


def text_of(path):
    return path.read_text(encoding="utf-8")


def tree_of(path):
    return ast.parse(text_of(path))


def walk(path, *kinds):
    return [node for node in ast.walk(tree_of(path)) if isinstance(node, kinds)]


def imports(path):
    """What the file imports: (module, name), by the name."""
    return {part.name: node.module for node in walk(path, ast.ImportFrom) for part in node.names}


def bound_in(function):
    """The parameters, local variables and nested functions of a function."""
    names = [part.arg for node in ast.walk(function) if isinstance(node, ast.arguments)
             for part in node.posonlyargs + node.args + node.kwonlyargs]
    names += [node.id for node in ast.walk(function) if isinstance(node, ast.Name) and isinstance(node.ctx, ast.Store)]
    return names + [node.name for node in ast.walk(function) if isinstance(node, ast.FunctionDef) and node is not function]


def is_table_of_functions(node, path):
    """Whether it tells for texts functions that the file itself defines."""
    if not isinstance(node, ast.Dict):
        return False
    defined = {part.name for part in tree_of(path).body if isinstance(part, ast.FunctionDef) and part.lineno < node.lineno}
    texts = all(isinstance(key, ast.Constant) and isinstance(key.value, str) for key in node.keys)
    return texts and all(isinstance(value, ast.Name) and value.id in defined for value in node.values)


def is_plain(node):
    if isinstance(node, ast.Constant):
        return isinstance(node.value, (int, str, bytes, type(None)))
    if isinstance(node, ast.UnaryOp):
        return isinstance(node.op, ast.USub) and is_plain(node.operand)
    return isinstance(node, ast.Tuple) and all(is_plain(part) for part in node.elts)


class Files(unittest.TestCase):
    def test_the_folder_holds_nothing_else(self):
        for path in PACKAGE.rglob("*"):
            if "__pycache__" not in path.parts:
                self.assertEqual(path.suffix, ".py")
                self.assertRegex(path.name, r"\A(__init__|[a-z][a-z0-9_]*)\.py\Z")
                self.assertNotIn(path.stem, BARRED_EVERYWHERE | BARRED_NAMES | set(dir(builtins)))
                self.assertNotRegex(path.stem, r"\A(law_|test)")
        self.assertIn(PACKAGE / "__init__.py", FILES)
        self.assertLessEqual(len(FILES), 100)

    def test_sizes(self):
        for path in FILES:
            lines = text_of(path).split("\n")
            self.assertLessEqual(len(lines), 399, path)
            self.assertLessEqual(max(len(line) for line in lines), 120, path)
            for node in walk(path, ast.FunctionDef, ast.Lambda):
                self.assertLessEqual(node.end_lineno - node.lineno + 1, 40, (path, node.lineno))

    def test_characters(self):
        for path in FILES:
            self.assertTrue(all(sign == "\n" or " " <= sign <= "~" for sign in text_of(path)), path)

    def test_no_test_stands_inside(self):
        for path in FILES:
            self.assertNotIn("unittest", text_of(path))


class Imports(unittest.TestCase):
    def test_what_is_imported(self):
        for path in FILES:
            self.assertEqual(walk(path, ast.Import), [], path)
            for node in walk(path, ast.ImportFrom):
                self.assertEqual(node.level, 0)
                self.assertTrue(all(part.asname is None and part.name != "*" for part in node.names))
                if node.module in LIBRARY:
                    self.assertLessEqual({part.name for part in node.names}, LIBRARY[node.module])
                else:
                    self.assertRegex(node.module, r"\Asplitcosts\.[a-z_]+\Z")

    def test_they_stand_at_the_top(self):
        for path in FILES:
            body = tree_of(path).body[1:]
            kinds = [isinstance(node, ast.ImportFrom) for node in body]
            self.assertEqual(kinds, sorted(kinds, reverse=True), path)
            self.assertEqual(len(walk(path, ast.ImportFrom)), sum(kinds))

    def test_names_come_from_the_file_that_defines_them(self):
        for path in FILES:
            for name, module in imports(path).items():
                if module not in LIBRARY:
                    body = tree_of(PACKAGE / (module.split(".")[1] + ".py")).body
                    defined = [node.name for node in body if isinstance(node, (ast.FunctionDef, ast.ClassDef))]
                    defined += [node.targets[0].id for node in body if isinstance(node, ast.Assign)]
                    self.assertIn(name, defined, path)

    def test_no_circle(self):
        asks = {path.stem: {module.split(".")[1] for module in imports(path).values() if module not in LIBRARY}
                for path in FILES}
        while asks:
            free = [name for name in asks if not asks[name] & set(asks)]
            self.assertTrue(free, asks)
            for name in free:
                del asks[name]

    def test_each_import_is_used(self):
        for path in FILES:
            used = {node.id for node in walk(path, ast.Name)}
            self.assertEqual(set(imports(path)) - used, set(), path)

    def test_the_library_is_only_called(self):
        for path in FILES:
            names = {name for name, module in imports(path).items() if module in LIBRARY}
            calls = [node.func for node in walk(path, ast.Call) if not node.keywords]
            read = [node for node in walk(path, ast.Name) if node.id in names]
            self.assertEqual(len(read), len([node for node in calls if isinstance(node, ast.Name) and node.id in names]))


class Modules(unittest.TestCase):
    def test_module_level(self):
        for path in FILES:
            names = list(imports(path))
            for at, node in enumerate(tree_of(path).body):
                if isinstance(node, ast.Assign):
                    self.assertTrue(len(node.targets) == 1 and isinstance(node.targets[0], ast.Name))
                    self.assertTrue(is_plain(node.value) or is_table_of_functions(node.value, path))
                    names.append(node.targets[0].id)
                elif isinstance(node, (ast.FunctionDef, ast.ClassDef)):
                    names.append(node.name)
                else:
                    docstring = at == 0 and isinstance(node, ast.Expr) and isinstance(node.value, ast.Constant)
                    self.assertTrue(docstring or isinstance(node, ast.ImportFrom), (path, node.lineno))
            self.assertEqual(len(names), len(set(names)), path)

    def test_the_interface_is_defined_in_its_files(self):
        for module, names in INTERFACE.items():
            kind = ast.ClassDef if module == "errors" else ast.FunctionDef
            defined = [node.name for node in tree_of(PACKAGE / f"{module}.py").body if isinstance(node, kind)]
            self.assertLessEqual(set(names), set(defined))
            self.assertEqual(len(defined), len(set(defined)))

    def test_each_function_is_used(self):
        used = {node.id for path in FILES for node in walk(path, ast.Name) if isinstance(node.ctx, ast.Load)}
        used |= {name for names in INTERFACE.values() for name in names}
        for path in FILES:
            for node in walk(path, ast.FunctionDef):
                self.assertTrue(node.name in used or node.name == "__init__", (path, node.name))

    def test_classes(self):
        for path in FILES:
            for node in walk(path, ast.ClassDef):
                self.assertEqual((node.decorator_list, node.keywords, len(node.bases)), ([], [], 1))
                self.assertIsNotNone(ast.get_docstring(node))
                methods = [part.name for part in node.body[1:] if isinstance(part, ast.FunctionDef)]
                self.assertEqual(len(methods), len(node.body) - 1)
                self.assertLessEqual(set(methods), {"__init__"})
                self.assertIn(node, tree_of_classes(path, node))

    def test_functions(self):
        for path in FILES:
            for node in walk(path, ast.FunctionDef):
                self.assertEqual(node.decorator_list, [])
                self.assertIsNone(node.returns)
            for node in walk(path, ast.arguments):
                self.assertEqual((node.vararg, node.kwarg, node.posonlyargs, node.kwonlyargs), (None, None, [], []))
                self.assertTrue(all(is_plain(part) for part in node.defaults))
            self.assertEqual(walk(path, ast.AnnAssign, ast.AsyncFunctionDef), [])


def tree_of_classes(path, node):
    """Classes are defined at module level: the one with this name there, told by its line."""
    return [node for part in tree_of(path).body if isinstance(part, ast.ClassDef) and part.lineno == node.lineno]


class Statements(unittest.TestCase):
    def test_what_stands_in_functions(self):
        for path in FILES:
            for function in walk(path, ast.FunctionDef):
                for node in ast.walk(function):
                    if isinstance(node, ast.stmt):
                        self.assertIsInstance(node, STATEMENTS, (path, node.lineno))

    def test_no_float_and_no_slash(self):
        for path in FILES:
            for node in walk(path, ast.Constant):
                self.assertNotIsInstance(node.value, (float, complex))
                if type(node.value) is int:
                    self.assertLess(len(str(node.value)), 900)
            for token in tokenize.generate_tokens(io.StringIO(text_of(path)).readline):
                self.assertFalse(token.type == tokenize.OP and token.string in ("/", "/=", "@", "->", ":="), (path, token))
            self.assertEqual(walk(path, ast.Div, ast.Pow, ast.MatMult), [])

    def test_no_sets_no_generators_and_no_strings_with_a_percent_sign(self):
        for path in FILES:
            kinds = (ast.Set, ast.SetComp, ast.GeneratorExp, ast.Yield, ast.YieldFrom, ast.JoinedStr, ast.Global, ast.Try)
            self.assertEqual(walk(path, *kinds), [], path)
            for node in walk(path, ast.Constant):
                self.assertFalse(isinstance(node.value, str) and ("%" in node.value or "__" in node.value), path)

    def test_is(self):
        for path in FILES:
            for node in walk(path, ast.Compare):
                for op, value in zip(node.ops, node.comparators):
                    if isinstance(op, (ast.Is, ast.IsNot)):
                        self.assertTrue(isinstance(value, ast.Constant) and value.value in (None, True, False))

    def test_errors_are_created_on_the_spot(self):
        for path in FILES:
            classes = {name for name, module in imports(path).items() if module == "splitcosts.errors"}
            for node in walk(path, ast.Raise):
                self.assertIsInstance(node.exc, ast.Call)
                self.assertIn(node.exc.func.id, classes)
                self.assertEqual(node.exc.keywords, [])

    def test_lambdas(self):
        for path in FILES:
            lines = [node.lineno for node in walk(path, ast.Lambda)]
            self.assertEqual(len(lines), len(set(lines)), path)

    def test_type_stands_beside_a_class_alone(self):
        for path in FILES:
            for line in text_of(path).split("\n"):
                if re.search(r"\btype\b", line):
                    self.assertRegex(line, r"\A    return type\(value\) == (tuple|int|str)\Z")


class Names(unittest.TestCase):
    def test_names_are_plain(self):
        for path in FILES:
            for name in self.names(path):
                self.assertRegex(name, r"\A(_|[A-Za-z][A-Za-z0-9_]*|__init__)\Z")
                self.assertNotIn(name, BARRED_EVERYWHERE)
                self.assertFalse(keyword.issoftkeyword(name) and name != "_", (path, name))

    def names(self, path):
        found = list(imports(path)) + [node.name for node in walk(path, ast.FunctionDef, ast.ClassDef)]
        found += [node.id for node in walk(path, ast.Name) if node.id != "type"]
        found += [node.attr for node in walk(path, ast.Attribute)] + [node.arg for node in walk(path, ast.arg, ast.keyword)]
        return found

    def test_nothing_has_the_name_of_a_builtin(self):
        # doctest leaves a _ among the builtins.
        taken = set(dir(builtins)) - {"_"} | BARRED_NAMES
        for path in FILES:
            for node in walk(path, ast.FunctionDef, ast.ClassDef):
                self.assertNotIn(node.name, taken)
            for function in walk(path, ast.FunctionDef):
                self.assertEqual(set(bound_in(function)) & taken, set(), path)
            for node in tree_of(path).body:
                if isinstance(node, ast.Assign):
                    self.assertNotIn(node.targets[0].id, taken)

    def test_no_local_name_is_that_of_an_import_or_a_class(self):
        for path in FILES:
            taken = set(imports(path)) | {node.name for node in walk(path, ast.ClassDef)}
            for function in walk(path, ast.FunctionDef):
                self.assertEqual(set(bound_in(function)) & taken, set(), (path, function.name))

    def test_the_blank_name_is_never_read(self):
        for path in FILES:
            for node in walk(path, ast.Name):
                self.assertTrue(node.id != "_" or isinstance(node.ctx, ast.Store), (path, node.lineno))

    def test_builtins_that_are_used(self):
        for path in FILES:
            called = {node.func.id for node in walk(path, ast.Call) if isinstance(node.func, ast.Name)}
            read = {node.id for node in walk(path, ast.Name) if isinstance(node.ctx, ast.Load)}
            self.assertLessEqual(read & set(dir(builtins)), BUILTINS, path)
            self.assertLessEqual(read & BUILTINS - {"tuple", "int", "str", "ValueError"}, called, path)

    def test_builtins_have_few_keywords(self):
        for path in FILES:
            for node in walk(path, ast.Call):
                self.assertEqual(node.keywords, [], (path, node.lineno))

    def test_methods(self):
        for path in FILES:
            for node in walk(path, ast.Call):
                if isinstance(node.func, ast.Attribute):
                    self.assertIn(node.func.attr, METHODS, (path, node.lineno))

    def test_barred_words(self):
        for path in FILES:
            for word in BARRED_WORDS:
                self.assertNotRegex(text_of(path), rf"\b{word}\b")
            for word in ("dataclass", "overload", "contextmanager", "_wall", "_WallAttr"):
                self.assertNotIn(word, text_of(path))

    def test_zip_and_range_are_iterated_at_once(self):
        for path in FILES:
            for node in walk(path, ast.Assign, ast.Return):
                if isinstance(node.value, ast.Call) and isinstance(node.value.func, ast.Name):
                    self.assertNotIn(node.value.func.id, ("zip", "enumerate", "reversed", "range"), (path, node.lineno))

    def test_what_is_counted_or_reversed_is_no_zip(self):
        for path in FILES:
            for node in walk(path, ast.Call):
                if isinstance(node.func, ast.Name) and node.func.id in ("len", "reversed"):
                    inner = node.args[0].func if isinstance(node.args[0], ast.Call) else None
                    barred = isinstance(inner, ast.Name) and inner.id in ("zip", "enumerate", "reversed")
                    self.assertFalse(barred, (path, node.lineno))


if __name__ == "__main__":
    unittest.main()
