"""The form of the code: what a look at the files alone can tell of the rules it is written by."""

import ast
import builtins
import importlib
import os
import unittest

ROOT = os.path.dirname(os.path.dirname(os.path.abspath(__file__)))
PACKAGE = os.path.join(ROOT, "soundlooks")

INTERFACE = {
    "text": "tokens read show shown_expression shown_condition lines_of",
    "trees": "is_program wrong_in part_at statement_count numbers_of rows_of marks_of",
    "graphs": "graph_of place_path numbers_at rows_at",
    "machine": "first_state kind_of moved run states_of",
    "plain": "plain_run",
    "stretches": (
        "is_stretch stretch_holds stretch_within stretch_joined stretch_met stretch_back stretch_sum stretch_product "
        "stretch_quotient stretch_modulo stretch_wrapped stretch_guarded stretch_widened stretch_rank"
    ),
    "rests": (
        "is_rest rest_holds rest_within rest_joined rest_met rest_back rest_sum rest_product rest_quotient rest_modulo "
        "rest_wrapped rest_guarded rest_rank settled"
    ),
    "differences": (
        "is_differences free_differences differences_hold closed_differences ring_of some_values values_apart "
        "stretch_between differences_within differences_joined differences_met differences_guarded differences_unlike "
        "differences_forgotten differences_set differences_kept differences_widened differences_rank"
    ),
    "equations": (
        "is_equations equations_from equations_hold equations_keep point_outside form_value equations_within "
        "equations_joined equations_met equations_guarded equations_forgotten equations_set equations_kept "
        "equations_rank equations_of differences_of"
    ),
    "looks": (
        "sight_of end_sight is_look free_look look_holds look_within look_joined look_met look_widened look_rank exchanged"
    ),
    "effects": "form_of worth_of faults_in effect_of effect_of_give first_look look_behind",
    "tables": (
        "empty_table coming looked_at looked number_of open_place is_closed analysed changes_of narrowed lies_in"
    ),
    "alarms": "faults_at alarms tried_numbers found is_whole_search bearing_run leaving_run answers",
    "checker": "accepts",
    "certificates": "certify_table certify_look certify_place certify_program",
    "console": "Console best_table shown_look",
    "errors": (
        "LookError InvalidText InvalidProgram InvalidIndex InvalidPlace InvalidNumber InvalidState InvalidStretch "
        "InvalidRest InvalidWidth InvalidGuard InvalidSize InvalidSlot InvalidDifferences InvalidEquations "
        "InvalidSight InvalidLook InvalidExpression InvalidStep InvalidFault InvalidInputs InvalidOrder InvalidTable "
        "InvalidMarks InvalidSlots InvalidValues InvalidRow InvalidRows NotGoing NotClosed"
    ),
}

BUILTINS = (
    "len range enumerate zip min max sum abs sorted reversed int str bool list tuple dict set isinstance ord repr "
    "any all divmod iter next ValueError KeyError"
).split()
METHODS = (
    "append clear copy count endswith extend find get index insert isalnum isalpha isdigit islower isspace isupper "
    "items join keys ljust lower lstrip partition pop remove replace reverse rfind rjust rpartition rsplit rstrip "
    "setdefault split splitlines startswith strip update upper values zfill bit_length add discard"
).split()
NAMES_NOT_USED = (
    "register mro elements open input law version_info with_traceback add_note attrgetter breakpoint builtins "
    "compile copyright credits delattr dir eval exec exit gc getattr globals hasattr help id importlib license "
    "locals methodcaller os quit setattr super type vars sys"
).split()
NODES_NOT_USED = (
    ast.Global, ast.AsyncFunctionDef, ast.Await, ast.Yield, ast.YieldFrom, ast.Lambda, ast.Div, ast.MatMult,
    ast.Set, ast.With, ast.AnnAssign, ast.NamedExpr, ast.Starred, ast.GeneratorExp, ast.Nonlocal,
)


def files():
    return sorted(name for name in os.listdir(PACKAGE) if name != "__pycache__")


def source(name):
    with open(os.path.join(PACKAGE, name), encoding="utf-8", newline="") as file:
        return file.read()


def tree(name):
    return ast.parse(source(name))


def nodes(name, *kinds):
    return [node for node in ast.walk(tree(name)) if isinstance(node, kinds)]


def imported(name):
    """The files of the package from which a file imports, each with the names."""
    return [(node.module.split(".")[1], [alias.name for alias in node.names])
            for node in nodes(name, ast.ImportFrom) if node.module != "math"]


def from_library(name):
    """The names that a file imports from Python's own library."""
    return [alias.name for node in nodes(name, ast.ImportFrom) if node.module == "math" for alias in node.names]


class Form(unittest.TestCase):
    def test_files(self):
        for name in files():
            self.assertRegex(name, r"^[a-z_][a-z0-9_]*\.py$")
            text = source(name)
            self.assertTrue(all(sign == "\n" or " " <= sign <= "~" for sign in text), name)
            rows = text.split("\n")
            self.assertLessEqual(len(rows), 399, name)
            self.assertLessEqual(max(len(row) for row in rows), 120, name)
            self.assertTrue(all(row == row.rstrip() for row in rows), name)

    def test_functions_are_short_and_told(self):
        for name in files():
            for node in nodes(name, ast.FunctionDef):
                first = node.lineno
                self.assertLessEqual(node.end_lineno - first + 1, 40, (name, node.name))
                self.assertEqual(node.decorator_list, [])
                self.assertTrue(node.name == "__init__" or ast.get_docstring(node), (name, node.name))
                self.assertFalse(node.name.startswith("__") and node.name != "__init__", (name, node.name))

    def test_module_level(self):
        for name in files():
            for node in tree(name).body:
                self.assertIsInstance(
                    node, (ast.Expr, ast.ImportFrom, ast.FunctionDef, ast.ClassDef, ast.Assign), name)
                if isinstance(node, ast.Expr):
                    self.assertIsInstance(node.value, ast.Constant)
                if isinstance(node, ast.Assign):
                    self.assertEqual([type(target) for target in node.targets], [ast.Name])
            self.assertIsNotNone(ast.get_docstring(tree(name)), name)

    def test_nodes_and_words_not_used(self):
        for name in files():
            self.assertEqual(nodes(name, *NODES_NOT_USED), [], name)
            for node in nodes(name, ast.Constant):
                self.assertNotIsInstance(node.value, (float, complex, bytes))
                if isinstance(node.value, str):
                    self.assertNotIn("\u0025", node.value)
            for node in nodes(name, ast.Name, ast.arg, ast.FunctionDef, ast.ClassDef, ast.Attribute):
                told = [getattr(node, word) for word in ("id", "arg", "name", "attr") if hasattr(node, word)]
                self.assertNotIn(told[0], NAMES_NOT_USED, name)
                self.assertFalse(told[0].startswith("__") and told[0] != "__init__", (name, told))

    def test_only_own_errors_are_caught(self):
        own = {node.name for node in nodes("errors.py", ast.ClassDef)}
        for name in files():
            for node in nodes(name, ast.Try):
                self.assertEqual((node.orelse, node.finalbody), ([], []))
                for handler in node.handlers:
                    self.assertIn(handler.type.id, own)
                    read = [one.attr for one in ast.walk(handler) if isinstance(one, ast.Attribute)
                            and isinstance(one.value, ast.Name) and one.value.id == handler.name]
                    told = [one for one in ast.walk(handler) if isinstance(one, ast.Name) and one.id == handler.name]
                    self.assertEqual(len(read), len(told), name)
                    self.assertTrue(set(read) <= {"line", "column", "place"}, name)

    def test_methods_of_the_interface_stand_in_their_class(self):
        classes = [node for node in tree("console.py").body if isinstance(node, ast.ClassDef) and node.name == "Console"]
        own = [node.name for node in classes[0].body if isinstance(node, ast.FunctionDef)]
        self.assertTrue({"say", "program"} <= set(own))

    def test_no_name_is_a_method_and_an_attribute_of_one_class(self):
        for name in files():
            for node in nodes(name, ast.ClassDef):
                methods = [one.name for one in node.body if isinstance(one, ast.FunctionDef)]
                self.assertEqual(len(methods), len(set(methods)), name)
                for one in ast.walk(node):
                    if isinstance(one, ast.Attribute) and isinstance(one.ctx, ast.Store):
                        self.assertNotIn(one.attr, methods, name)

    def test_powers(self):
        for name in files():
            for node in nodes(name, ast.BinOp):
                if isinstance(node.op, ast.Pow):
                    self.assertIsInstance(node.right, ast.Constant)
                    self.assertTrue(0 <= node.right.value <= 64)

    def test_is_stands_beside_none_alone(self):
        for name in files():
            for node in nodes(name, ast.Compare):
                for sign, right in zip(node.ops, node.comparators):
                    if isinstance(sign, (ast.Is, ast.IsNot)):
                        self.assertIsInstance(right, ast.Constant)
                        self.assertIsNone(right.value)

    def test_builtins(self):
        for name in files():
            for node in nodes(name, ast.Name):
                if node.id in vars(builtins):
                    self.assertIn(node.id, BUILTINS, name)
                    self.assertIsInstance(node.ctx, ast.Load, (name, node.id))
            for node in nodes(name, ast.arg, ast.FunctionDef, ast.ClassDef):
                told = node.arg if isinstance(node, ast.arg) else node.name
                self.assertFalse(told in vars(builtins), (name, told))

    def test_methods(self):
        own = {node.name for name in files() for node in nodes(name, ast.FunctionDef)}
        for name in files():
            for node in nodes(name, ast.Call):
                if isinstance(node.func, ast.Attribute):
                    self.assertIn(node.func.attr, METHODS + sorted(own), name)

    def test_no_names_of_imports_or_classes_are_given_again(self):
        for name in files():
            taken = [alias for _, names in imported(name) for alias in names] + from_library(name)
            taken += [node.name for node in nodes(name, ast.ClassDef)]
            self.assertEqual(len(taken), len(set(taken)), name)
            for node in nodes(name, ast.arg):
                self.assertNotIn(node.arg, taken, name)
            for node in nodes(name, ast.Name):
                if isinstance(node.ctx, ast.Store):
                    self.assertNotIn(node.id, taken, name)

    def test_imports_name_the_file_that_defines(self):
        for name in files():
            self.assertEqual(nodes(name, ast.Import), [], name)
            for node in nodes(name, ast.ImportFrom):
                self.assertEqual(node.level, 0)
                self.assertRegex(node.module, r"^(soundlooks\.[a-z_]+|math)$")
                self.assertTrue(all(alias.asname is None for alias in node.names))
            for module, names in imported(name):
                told = tree(module + ".py").body
                defined = [node.name for node in told if isinstance(node, (ast.FunctionDef, ast.ClassDef))]
                defined += [node.targets[0].id for node in told if isinstance(node, ast.Assign)]
                for alias in names:
                    self.assertIn(alias, defined, (name, module))

    def test_the_library_is_called_by_bare_names(self):
        for name in files():
            taken = from_library(name)
            self.assertTrue(set(taken) <= {"gcd", "lcm"}, name)
            calls = [node for node in nodes(name, ast.Call) if isinstance(node.func, ast.Name) and node.func.id in taken]
            self.assertTrue(all(node.keywords == [] for node in calls), name)
            read = [node.id for node in nodes(name, ast.Name) if node.id in taken]
            self.assertEqual(sorted(read), sorted(node.func.id for node in calls), name)
            self.assertEqual(sorted(set(read)), sorted(taken), name)

    def test_all_imports_are_used(self):
        for name in files():
            used = {node.id for node in nodes(name, ast.Name)}
            for _, names in imported(name):
                for alias in names:
                    self.assertIn(alias, used, name)

    def test_no_files_import_from_each_other(self):
        reached = {name[:-3]: {module for module, _ in imported(name)} for name in files()}
        for _ in reached:
            reached = {name: told.union(*[reached[one] for one in told]) for name, told in reached.items()}
        for name, told in reached.items():
            self.assertNotIn(name, told)

    def test_the_interface_is_defined_where_it_is_listed(self):
        for module, names in INTERFACE.items():
            loaded = importlib.import_module("soundlooks." + module)
            defined = [node.name for node in tree(module + ".py").body
                       if isinstance(node, (ast.FunctionDef, ast.ClassDef))]
            for name in names.split():
                self.assertIn(name, defined)
                self.assertEqual(getattr(loaded, name).__module__, "soundlooks." + module)


if __name__ == "__main__":
    unittest.main()
