"""The interface, the order of the modules, and the bounds on the code."""

import ast
import builtins
import importlib
import inspect
from pathlib import Path
from unittest import TestCase

PACKAGE = Path(__file__).resolve().parent.parent / "alongall"
ORDER = (
    "errors words weaves algebras spots placed asrounds formulas readers least building merging chains changing combining "
    "values mixes lots hiding texts compiling making steps markings weighing deciding kinds placing verdicts weavetexts desk "
    "families filling flaws fullwords lengths levels marking papers views parters parting placetables roundforms sayings "
    "shorthand ties ways wrapping"
).split()
# What has landed, with the names of the parameters.
INTERFACE = {
    "words": {"is_name": "thing"},
    "weaves": {
        "letters": "scope", "is_weave": "scope thing", "size": "scope weave", "letters_in": "scope weave",
        "length": "scope weave", "spelled": "scope weave", "written": "scope row",
    },
    "algebras": {"is_table": "thing", "is_algebra": "thing", "value": "table scope starts weave"},
    "spots": {"is_spot": "scope weave thing", "cut": "scope weave spot"},
    "placed": {
        "is_placed": "thing", "names_of": "formula", "mirrored": "formula", "there": "scope formula weave spot",
    },
    "asrounds": {"as_rounds": "formula name"},
    "formulas": {
        "is_formula": "thing", "is_long": "thing", "is_sentence": "thing", "free_names": "formula", "nodes_in": "formula",
        "is_short": "thing",
    },
    "readers": {"is_reader": "thing", "takes": "reader weave"},
    "least": {"least": "reader"},
    "building": {"made": "algebra given", "paired": "one other given", "flipped": "algebra"},
    "merging": {
        "is_merging": "algebra thing", "merged": "algebra merging", "mergings": "algebra", "least_merging": "algebra pairs",
        "coarsest": "algebra lot",
    },
    "chains": {
        "around": "algebra surroundings element", "chain": "algebra pairs first last",
        "is_chain": "algebra pairs first last thing", "parting": "algebra lot first last",
    },
    "changing": {"widened": "reader scope", "renamed": "reader names", "backward": "reader"},
    "combining": {"contrary": "reader", "meeting": "one other", "joining": "one other"},
    "values": {
        "is_lot": "algebra thing", "then_of": "algebra one other", "plus": "algebra lot", "on_of": "algebra lot",
        "back_of": "algebra lot", "on_paper": "algebra lot element", "is_on_paper": "algebra lot element thing",
    },
    "mixes": {
        "mix_of": "algebra kinds", "is_closed": "algebra kinds thing", "mix_paper": "algebra kinds element",
        "is_mix_paper": "algebra kinds element thing",
    },
    "lots": {"lots_of": "algebra given", "values_of": "algebra scope starts weave"},
    "hiding": {"hidden": "reader name"},
    "texts": {"text_of": "formula", "formula_of": "text"},
    "compiling": {"reader_of": "formula"},
    "making": {
        "turned": "scope weave", "without": "scope weave names", "part_at": "scope weave path",
        "with_part": "scope weave path part",
    },
    "steps": {"is_rule": "scope one other", "is_road": "scope one other thing", "gone": "scope weave road"},
    "markings": {
        "marking": "algebra scope starts name weave element",
        "is_marking": "algebra scope starts name weave element thing",
        "marked_values": "algebra scope starts name weave",
    },
    "weighing": {"classes": "reader", "some_word": "reader", "apart": "one other"},
    "deciding": {"means": "formula scope weave", "shown": "formula scope weave", "follows": "one other"},
    "kinds": {"is_of": "kind scope weave", "met_in": "reader kind"},
    "placing": {"where": "formula name scope weave"},
    "verdicts": {"verdict_in": "sentence kind", "is_verdict_in": "sentence kind thing"},
    "weavetexts": {"weave_text": "scope weave", "weave_of": "scope text"},
    "desk": {"Desk": ""},
    "families": {"tallying": "most", "bearing": "many", "leading": "many", "ordering": ""},
    "filling": {"woven": "scope weave other fills", "filled": "reader scope fills"},
    "flaws": {"flaw": "table", "is_flaw": "table thing"},
    "fullwords": {
        "value_of": "formula letter", "then_value": "formula one other", "on_value": "formula one", "back_value": "formula one",
        "mix_value": "formula lot",
    },
    "lengths": {
        "repeats": "reader weave", "lengths": "reader", "sure_lengths": "reader", "powers": "reader weave", "powers_back": "reader weave",
    },
    "levels": {"levels": "reader", "level": "scope weave"},
    "marking": {"marked": "scope formula weave name"},
    "papers": {"paper_of": "reader", "is_paper": "reader thing"},
    "views": {"view": "scope weave depth", "alike_to": "scope one other depth", "least_depth": "scope one other most"},
    "parters": {"parter": "scope one other depth", "is_parter": "scope one other depth thing"},
    "parting": {"kept": "scope weave name", "picked": "reader name", "relative": "sentence name", "mirrored": "formula"},
    "placetables": {
        "table_of": "formula", "is_bar_table": "formula thing", "word_for": "formula", "places_parted": "one other",
    },
    "roundforms": {"is_rounds": "thing", "loose": "formula", "rounds_of": "formula", "in_sets": "formula"},
    "sayings": {"so": "scope formula weave", "so_at": "scope formula weave spot", "sentence_apart": "scope one other depth"},
    "shorthand": {"as_formula": "short", "without_shorts": "formula"},
    "ties": {"tie": "one other", "is_tie": "one other thing", "sameness": "one other", "is_sameness": "one other thing"},
    "ways": {"is_way": "one other thing", "way_of": "one other given", "clash": "one other given", "is_clash": "one other given thing"},
    "wrapping": {"wrapped": "reader surroundings weave", "asked": "reader surroundings"},
}
BARRED_NAMES = (
    "register mro elements open input law version_info with_traceback add_note attrgetter breakpoint builtins compile copyright "
    "credits delattr dir eval exec exit gc getattr globals hasattr help id importlib license locals methodcaller os quit setattr "
    "vars sys"
).split()
BUILTINS = (
    "len range enumerate zip min max sum abs sorted reversed int str bool bytes list tuple dict set isinstance ord repr any all "
    "divmod ValueError"
).split()
METHODS = (
    "append clear copy count endswith extend find get index insert isalnum isalpha isdigit islower isspace isupper items join "
    "keys ljust lower lstrip partition pop remove replace reverse rfind rjust rpartition rsplit rstrip setdefault split "
    "splitlines startswith strip update upper values zfill bit_length add discard"
).split()


def package_files():
    return sorted(PACKAGE.glob("*.py"))


def own_methods():
    found = set()
    for path in package_files():
        for node in ast.walk(ast.parse(path.read_text())):
            if isinstance(node, ast.ClassDef):
                found.update(part.name for part in node.body if isinstance(part, ast.FunctionDef))
    return found


class Layout(TestCase):
    def test_only_files_of_python(self):
        for path in PACKAGE.iterdir():
            self.assertTrue(path.suffix == ".py" or path.name == "__pycache__", path)
        self.assertEqual((PACKAGE / "__init__.py").read_text(), "")

    def test_interface(self):
        for module, functions in INTERFACE.items():
            found = importlib.import_module("alongall." + module)
            for name, parameters in functions.items():
                function = vars(found)[name]
                self.assertEqual(function.__module__, "alongall." + module)
                self.assertEqual(list(inspect.signature(function).parameters), parameters.split(), name)

    def test_modules_import_only_from_those_ahead(self):
        imports = {}
        for path in package_files():
            imports[path.stem] = [
                node.module.split(".")[1] for node in ast.walk(ast.parse(path.read_text())) if isinstance(node, ast.ImportFrom)]
        for module in imports:
            seen, rest = set(), [module]
            while rest:
                for other in imports[rest.pop()]:
                    if other not in seen:
                        seen.add(other)
                        rest.append(other)
            self.assertNotIn(module, seen)
            if module in ORDER:
                for other in seen:
                    if other in ORDER:
                        self.assertLess(ORDER.index(other), ORDER.index(module), (module, other))

    def test_sizes(self):
        for path in package_files():
            text = path.read_text()
            rows = text.split("\n")
            self.assertLessEqual(len(rows), 400, path)
            for row in rows:
                self.assertLessEqual(len(row), 120, (path, row))
                self.assertTrue(all(" " <= sign <= "~" for sign in row), (path, row))
                self.assertEqual(row, row.rstrip(), path)
            for node in ast.walk(ast.parse(text)):
                if isinstance(node, ast.FunctionDef):
                    self.assertLessEqual(node.end_lineno - node.lineno + 1, 40, (path, node.name))

    def test_every_function_and_file_has_a_docstring(self):
        for path in package_files():
            tree = ast.parse(path.read_text())
            if path.stem != "__init__":
                self.assertTrue(ast.get_docstring(tree), path)
            for node in ast.walk(tree):
                if isinstance(node, (ast.FunctionDef, ast.ClassDef)) and node.name not in ("__init__", "told"):
                    self.assertTrue(ast.get_docstring(node), (path, node.name))

    def test_statements(self):
        barred = (
            ast.Global, ast.Nonlocal, ast.AsyncFunctionDef, ast.Await, ast.Yield, ast.YieldFrom, ast.AnnAssign, ast.Lambda,
            ast.NamedExpr, ast.Set, ast.With, ast.Match, ast.Div, ast.Import, ast.Delete, ast.Pow, ast.MatMult,
        )
        for path in package_files():
            tree = ast.parse(path.read_text())
            for node in ast.walk(tree):
                self.assertNotIsInstance(node, barred, (path, getattr(node, "lineno", 0)))
                if isinstance(node, ast.FunctionDef):
                    self.assertEqual(node.decorator_list, [])
                if isinstance(node, ast.Try):
                    self.assertEqual(node.finalbody + node.orelse, [])
                    caught = [name.id for one in node.handlers for name in ast.walk(one.type) if isinstance(name, ast.Name)]
                    self.assertTrue(all(name.startswith(("Bad", "No", "Too")) for name in caught), (path, caught))
                    self.assertEqual(len(caught), len(set(caught)))
                if isinstance(node, ast.Constant):
                    self.assertNotIsInstance(node.value, (float, complex, bytes))
                    if isinstance(node.value, str):
                        self.assertNotIn("__", node.value)
                if isinstance(node, ast.Compare):
                    for sign, side in zip(node.ops, node.comparators):
                        if isinstance(sign, (ast.Is, ast.IsNot)):
                            self.assertIn(getattr(side, "value", 0), (None, True, False))
                if isinstance(node, ast.ImportFrom):
                    self.assertTrue(node.module.startswith("alongall."))
                    self.assertTrue(all(name.asname is None and name.name != "*" for name in node.names))
            for node in tree.body:
                self.assertIsInstance(node, (ast.Expr, ast.ImportFrom, ast.FunctionDef, ast.ClassDef, ast.Assign), path)

    def test_names(self):
        known = set(dir(builtins))
        methods = own_methods()
        for path in package_files():
            tree = ast.parse(path.read_text())
            imported = {name.name for node in tree.body if isinstance(node, ast.ImportFrom) for name in node.names}
            functions = {node.name for node in tree.body if isinstance(node, ast.FunctionDef)}
            for node in ast.walk(tree):
                if isinstance(node, ast.Name) and isinstance(node.ctx, ast.Load) and node.id in known:
                    self.assertIn(node.id, BUILTINS, (path, node.lineno))
                stored = []
                if isinstance(node, ast.Name) and isinstance(node.ctx, ast.Store):
                    stored = [node.id]
                if isinstance(node, ast.arg):
                    stored = [node.arg]
                if isinstance(node, (ast.FunctionDef, ast.ClassDef)):
                    self.assertNotIn(node.name, BARRED_NAMES)
                    self.assertTrue(node.name not in known or node.name == "__init__", (path, node.name))
                for name in stored:
                    self.assertNotIn(name, BARRED_NAMES, path)
                    self.assertNotIn(name, known, (path, name))
                    self.assertNotIn(name, imported, (path, name))
                    self.assertNotIn(name, functions, (path, name))
                if isinstance(node, ast.Call) and isinstance(node.func, ast.Attribute):
                    self.assertIn(node.func.attr, METHODS + sorted(methods), (path, node.lineno))

    def test_words_that_do_not_occur(self):
        words = "type typing enum Enum Flag Generic Protocol ABC namedtuple NamedTuple TypedDict dataclass overload _wall".split()
        for path in package_files():
            for node in ast.walk(ast.parse(path.read_text())):
                if isinstance(node, ast.Name):
                    self.assertNotIn(node.id, words)
                if isinstance(node, ast.Constant) and isinstance(node.value, str) and "\n" not in node.value:
                    self.assertNotIn("%", node.value)

    def test_loops_do_not_change_what_they_go_over(self):
        changing = ("append", "extend", "pop", "insert", "remove", "clear", "update", "setdefault", "reverse")
        for path in package_files():
            for loop in ast.walk(ast.parse(path.read_text())):
                if not isinstance(loop, ast.For):
                    continue
                names = {node.id for node in ast.walk(loop.iter) if isinstance(node, ast.Name)}
                for node in ast.walk(ast.Module(body=loop.body, type_ignores=[])):
                    if isinstance(node, ast.Call) and isinstance(node.func, ast.Attribute) and node.func.attr in changing:
                        owner = node.func.value
                        if isinstance(owner, ast.Name):
                            self.assertNotIn(owner.id, names, (path, node.lineno))
                    if isinstance(node, ast.Assign):
                        for target in node.targets:
                            if isinstance(target, ast.Subscript) and isinstance(target.value, ast.Name):
                                self.assertNotIn(target.value.id, names, (path, node.lineno))

    def test_imports_name_the_file_that_defines(self):
        defined = {}
        for path in package_files():
            tree = ast.parse(path.read_text())
            names = [node.name for node in tree.body if isinstance(node, (ast.FunctionDef, ast.ClassDef))]
            names += [target.id for node in tree.body if isinstance(node, ast.Assign) for target in node.targets]
            self.assertEqual(len(names), len(set(names)), path)
            defined[path.stem] = names
        for path in package_files():
            for node in ast.walk(ast.parse(path.read_text())):
                if isinstance(node, ast.ImportFrom):
                    for name in node.names:
                        self.assertIn(name.name, defined[node.module.split(".")[1]], path)

    def test_imports_are_used(self):
        for path in package_files():
            tree = ast.parse(path.read_text())
            used = {node.id for node in ast.walk(tree) if isinstance(node, ast.Name)}
            for node in tree.body:
                if isinstance(node, ast.ImportFrom):
                    for name in node.names:
                        self.assertIn(name.name, used, path)

    def test_lists_and_dicts_of_files_are_only_read(self):
        for path in package_files():
            tree = ast.parse(path.read_text())
            kept = {
                node.targets[0].id for node in tree.body if isinstance(node, ast.Assign) and isinstance(node.value, (ast.Dict, ast.List))}
            fine = set()
            for node in ast.walk(tree):
                if isinstance(node, ast.Subscript):
                    fine.add(id(node.value))
                if isinstance(node, ast.Compare) and isinstance(node.ops[0], (ast.In, ast.NotIn)):
                    fine.add(id(node.comparators[0]))
            for node in ast.walk(tree):
                if isinstance(node, ast.Name) and isinstance(node.ctx, ast.Load) and node.id in kept:
                    self.assertIn(id(node), fine, (path, node.lineno))

    def test_generator_expressions_stand_alone_in_builtins(self):
        for path in package_files():
            tree = ast.parse(path.read_text())
            fine = set()
            for node in ast.walk(tree):
                if isinstance(node, ast.Call) and isinstance(node.func, ast.Name) and len(node.args) == 1:
                    if node.func.id in ("list", "tuple", "sorted", "sum", "min", "max", "any", "all") and not node.keywords:
                        fine.add(id(node.args[0]))
            for node in ast.walk(tree):
                if isinstance(node, ast.GeneratorExp):
                    self.assertIn(id(node), fine, (path, node.lineno))
                if isinstance(node, ast.SetComp):
                    self.assertTrue(any(
                        isinstance(call, ast.Call) and isinstance(call.func, ast.Name) and call.func.id in ("sorted", "len")
                        and node in call.args for call in ast.walk(tree)), (path, node.lineno))
                if isinstance(node, ast.Call) and isinstance(node.func, ast.Name) and node.func.id == "set":
                    self.assertTrue(any(
                        isinstance(call, ast.Call) and isinstance(call.func, ast.Name) and call.func.id in ("sorted", "len")
                        and node in call.args for call in ast.walk(tree)), (path, node.lineno))

    def test_ranges_and_views_are_not_kept(self):
        for path in package_files():
            for node in ast.walk(ast.parse(path.read_text())):
                if isinstance(node, (ast.Assign, ast.Return)) and isinstance(node.value, ast.Call):
                    call = node.value.func
                    name = call.id if isinstance(call, ast.Name) else call.attr
                    self.assertNotIn(name, ("range", "zip", "enumerate", "reversed", "items", "keys", "values", "map"), path)
