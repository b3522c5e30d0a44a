"""The interface as it is written down, and the form of the files of the package."""

import ast
import builtins
import pathlib
import unittest

PACKAGE = pathlib.Path(__file__).resolve().parent.parent / "barswoven"

FUNCTIONS = {
    "field": {"is_base": "number", "inverse_of": "value * base", "dot": "first second * base"},
    "matrix": {"block": "first second"},
    "solving": {
        "rank": "matrix", "inverse": "matrix", "solve": "matrix vector", "kernel": "matrix", "normal": "matrix",
    },
    "bars": {
        "lives": "bar time", "sorted_bars": "bars", "rank_between": "row start end", "bars": "row",
        "row_of_bars": "base last bars",
    },
    "frames": {
        "frame": "row", "is_frame": "row strands", "alike": "first second", "is_alike": "first second paper",
    },
    "lagmap": {"image": "lagmap", "lost": "lagmap"},
    "pairing": {
        "are_near": "bar other * lag", "is_long": "bar * lag", "is_pairing": "first second pairs * lag",
        "is_lonely": "first second side places * lag", "is_apart": "first second side places",
        "pair_within": "first second * lag", "least_pairing": "first second", "by_deaths": "part whole * lag",
        "by_births": "whole made",
    },
    "weaving": {"weave": "first second ours theirs pairs * lag", "pairs_of": "weaving"},
    "comparing": {"compare": "first second", "accepts": "first second paper"},
    "midway": {"midway": "first second * lag"},
    "backwards": {"turned_row": "row", "turned_bars": "bars last", "turned_strands": "row strands"},
    "growth": {"faces": "piece"},
    "reducing": {"partners": "growth * base", "hole_bars": "growth degree * base", "part_bars": "growth"},
    "holes": {
        "hole_row": "growth degree * base", "is_hole_row": "growth degree row cycles",
        "weave_heights": "first second degree * base",
    },
    "writing": {
        "write_matrix": "matrix", "write_row": "row", "write_weaving": "weaving", "write_book": "book",
    },
    "reading": {"read_row": "text", "read_weaving": "text first second", "read_book": "text"},
}
CLASSES = {
    "errors": {
        "WovenError": {}, "NoInverse": {}, "InvalidMatrix": {}, "Singular": {}, "InvalidTime": {},
        "InvalidRow": {}, "InvalidMap": {}, "InvalidWeaving": {}, "InvalidGrowth": {}, "NoChain": {},
        "InvalidName": {"__init__": "self name"}, "DuplicateName": {"__init__": "self name"},
        "UnknownName": {"__init__": "self name"}, "InvalidText": {"__init__": "self line"},
    },
    "matrix": {
        "Matrix": {
            "__init__": "self base width rows", "height": "self", "is_zero": "self", "identity": "base size",
            "zero": "base height width", "of_columns": "base height columns", "column": "self place",
            "columns": "self", "apply": "self vector", "transposed": "self", "scaled": "self factor",
            "__mul__": "self other", "__add__": "self other", "__sub__": "self other", "__eq__": "self other",
        },
    },
    "row": {
        "Row": {
            "__init__": "self base dims steps", "last": "self", "dim": "self time", "step": "self time",
            "carry": "self start end", "prolonged": "self last", "later": "self lag", "earlier": "self lag",
            "plus": "self other", "__eq__": "self other",
        },
    },
    "lagmap": {
        "LagMap": {
            "__init__": "self first second lag parts", "carrying": "row lag", "part": "self time", "is_into": "self",
            "is_onto": "self", "then": "self other", "beside": "self other", "__add__": "self other",
            "__eq__": "self other",
        },
    },
    "weaving": {
        "Weaving": {
            "__init__": "self forth back", "still": "row", "turned": "self", "then": "self other",
            "slowed": "self lag", "beside": "self other", "__eq__": "self other",
        },
    },
    "growth": {
        "Growth": {
            "__init__": "self entries", "last": "self", "height_of": "self piece", "pieces": "self degree",
            "amount": "self degree time", "borders": "self degree time base", "__len__": "self", "__iter__": "self",
            "__contains__": "self piece", "__eq__": "self other",
        },
    },
    "book": {
        "Book": {
            "__init__": "self", "add": "self name row", "names": "self", "row": "self name",
            "offer_weaving": "self first second weaving", "offer_lonely": "self first second lag side places",
            "offer_apart": "self first second side places", "claims": "self", "high": "self first second",
            "low": "self first second", "weaving": "self first second", "are_apart": "self first second",
        },
    },
}
DECORATED = {"height": "property", "is_zero": "property", "last": "property"}
DECORATED.update(dict.fromkeys(("identity", "zero", "of_columns", "carrying", "still"), "staticmethod"))

BUILTINS = set((
    "len range enumerate zip min max sum abs sorted reversed int str bool list tuple dict set isinstance ord repr any "
    "all divmod iter ValueError staticmethod property super"
).split())
METHODS = set((
    "append clear copy count endswith extend find get index insert isalnum isalpha isdigit islower isspace isupper "
    "items join keys ljust lower lstrip partition pop remove replace reverse rfind rjust rpartition rsplit rstrip "
    "setdefault split splitlines startswith strip update upper values zfill bit_length __init__"
).split())


def tree_of(module):
    return ast.parse((PACKAGE / f"{module}.py").read_text("utf-8"))


def defined(body, kind):
    return {node.name: node for node in body if isinstance(node, kind)}


def arguments(function):
    told = function.args
    named = [one.arg for one in told.args]
    if told.kwonlyargs:
        named += ["*", *[one.arg for one in told.kwonlyargs]]
    return " ".join(named)


class InterfaceTest(unittest.TestCase):
    def test_functions_stand_in_their_files(self):
        for module, functions in FUNCTIONS.items():
            found = defined(tree_of(module).body, ast.FunctionDef)
            for name, told in functions.items():
                with self.subTest(module=module, name=name):
                    self.assertEqual(arguments(found[name]), told)

    def test_classes_stand_in_their_files_with_their_methods(self):
        for module, classes in CLASSES.items():
            found = defined(tree_of(module).body, ast.ClassDef)
            for name, methods in classes.items():
                own = defined(found[name].body, ast.FunctionDef)
                for method, told in methods.items():
                    with self.subTest(module=module, name=name, method=method):
                        self.assertEqual(arguments(own[method]), told)
                        over = [one.id for one in own[method].decorator_list]
                        self.assertEqual(over, [DECORATED[method]] if method in DECORATED else [])


class FormTest(unittest.TestCase):
    def setUp(self):
        self.files = {path.name: path.read_text("utf-8") for path in sorted(PACKAGE.rglob("*.py"))}
        self.nodes = [(name, node) for name, text in self.files.items() for node in ast.walk(ast.parse(text))]

    def test_the_folder_holds_the_files_of_the_program_alone(self):
        found = {path.name for path in PACKAGE.iterdir() if path.name != "__pycache__"}
        told = {f"{module}.py" for module in (*FUNCTIONS, *CLASSES)}
        self.assertEqual(found, told | {"__init__.py"})
        self.assertTrue(all(name.endswith(".py") for name in found))

    def test_sizes_and_characters(self):
        for name, text in self.files.items():
            lines = text.split("\n")
            with self.subTest(file=name):
                self.assertLessEqual(len(lines), 400)
                self.assertLessEqual(max(map(len, lines)), 120)
                self.assertTrue(all(sign == "\n" or " " <= sign <= "~" for sign in text))

    def test_sizes_of_functions(self):
        for name, node in self.nodes:
            if isinstance(node, ast.FunctionDef):
                self.assertLessEqual(node.end_lineno - node.lineno + 1, 40, (name, node.name))

    def test_imports(self):
        for name, node in self.nodes:
            self.assertNotIsInstance(node, ast.Import, name)
            if isinstance(node, ast.ImportFrom):
                self.assertEqual(node.level, 0, name)
                self.assertTrue(node.module.startswith("barswoven."), (name, node.module))

    def test_whole_numbers_only(self):
        for name, node in self.nodes:
            self.assertNotIsInstance(node, ast.Div, name)
            if isinstance(node, ast.Constant):
                self.assertNotIsInstance(node.value, (float, complex), name)

    def test_no_two_files_import_from_each_other(self):
        imported = {name[:-3]: [] for name in self.files}
        for name, node in self.nodes:
            if isinstance(node, ast.ImportFrom):
                imported[name[:-3]].append(node.module.partition(".")[2])
        done = set()
        while len(done) < len(imported):
            ready = {module for module in imported if module not in done and done.issuperset(imported[module])}
            self.assertTrue(ready, "some files import from each other")
            done |= ready

    def test_iteration_is_one_statement(self):
        for name, node in self.nodes:
            if isinstance(node, ast.FunctionDef) and node.name == "__iter__":
                self.assertEqual(ast.unparse(node.body[-1]), "return iter(self.entries)", name)
                self.assertEqual(len(node.body), 1, name)

    def test_names_with_one_meaning(self):
        for name, text in self.files.items():
            body = ast.parse(text).body
            bound = [one.name for one in body if isinstance(one, (ast.FunctionDef, ast.ClassDef))]
            imports = [one.name for node in body if isinstance(node, ast.ImportFrom) for one in node.names]
            self.assertEqual(len(bound + imports), len(set(bound + imports)), name)
            kept = set(dir(builtins)) | set(imports)
            kept.update(one.name for one in body if isinstance(one, ast.ClassDef))
            used = {node.arg for node in ast.walk(ast.parse(text)) if isinstance(node, ast.arg)}
            used.update(
                node.id for node in ast.walk(ast.parse(text))
                if isinstance(node, ast.Name) and isinstance(node.ctx, ast.Store)
            )
            self.assertEqual(used & kept, set(), name)
            self.assertEqual(set(bound) & set(dir(builtins)), set(), name)

    def test_builtins_and_methods(self):
        own = {node.name for _, node in self.nodes if isinstance(node, ast.FunctionDef)}
        for name, node in self.nodes:
            if isinstance(node, ast.Name) and hasattr(builtins, node.id):
                self.assertIn(node.id, BUILTINS, name)
            if isinstance(node, ast.Call) and isinstance(node.func, ast.Attribute):
                self.assertIn(node.func.attr, METHODS | own, name)

    def test_statements_and_expressions(self):
        barred = (
            ast.GeneratorExp, ast.Global, ast.AsyncFunctionDef, ast.Await, ast.Yield, ast.Lambda, ast.Set, ast.Import,
            ast.With, ast.AnnAssign, ast.NamedExpr, ast.Starred, ast.Match,
        )
        for name, node in self.nodes:
            self.assertNotIsInstance(node, barred, (name, getattr(node, "lineno", 0)))

    def test_own_errors_alone_are_caught(self):
        for name, node in self.nodes:
            if isinstance(node, ast.Try):
                self.assertEqual((node.orelse, node.finalbody), ([], []), name)
            if isinstance(node, ast.ExceptHandler):
                self.assertIn(node.type.id, CLASSES["errors"], name)


if __name__ == "__main__":
    unittest.main()
