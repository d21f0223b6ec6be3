"""[1] and the rules of the language, as far as they can be seen in the package's text.

No clock, chance or files: the package imports nothing but its own modules and uses only the builtins
that the rules list.
"""

import ast
import builtins
import pathlib
import re
import unittest

PACKAGE = pathlib.Path(__file__).resolve().parent.parent / "heldmarks"

# L8, without chr (L27) and without print, which only __main__.py may use.
BUILTINS = set("""len range enumerate zip min max sum abs sorted reversed int str bool bytes list tuple dict set
    frozenset isinstance ord repr any all divmod iter next super Exception ValueError TypeError KeyError IndexError
    LookupError ZeroDivisionError ArithmeticError OverflowError RuntimeError NotImplementedError AttributeError
    StopIteration NotImplemented property staticmethod classmethod object""".split())

# L25, and the ways to make an error that L5 lists.
METHODS = set("""append clear copy count endswith extend find get index insert isalnum isalpha isdigit islower isspace
    isupper items join keys ljust lower lstrip partition pop remove replace reverse rfind rjust rpartition rsplit
    rstrip setdefault split splitlines startswith strip update upper values zfill bit_length title capitalize swapcase
    casefold center expandtabs removeprefix removesuffix rindex isascii isdecimal isnumeric istitle isidentifier
    isprintable sort add discard __init__""".split())

WORDS = """type typing typing_extensions enum Enum IntEnum StrEnum Flag IntFlag Generic Protocol ABC ABCMeta
    namedtuple NamedTuple TypedDict TYPE_CHECKING abstractmethod""".split()

DUNDERS = """__init__ __eq__ __repr__ __str__ __len__ __enter__ __exit__ __call__ __iter__""".split()

INTERFACE = {
    "turns": ["is_turn(thing)", "then(one, other)", "contrary(turn)", "length(turn)", "rings(turn)",
              "turn_of(many, rings)"],
    "groups": ["group_of(many, turns)", "house_of(group)"],
    "houses": ["is_house(thing)", "contraries(house)", "lengths(house)"],
    "parts": ["part_of(house, numbers)", "is_part(house, thing)", "led(house, part, number)",
              "stayers(house, part)", "common(one, other)"],
    "shares": ["shares(house, part)"],
    "kinds": ["all_parts(house)", "kinds_of(house)", "kind_of(house, kinds, part)", "many_of(house, part)"],
    "marks": ["mark(house, part, other)", "table_of(house, kinds)"],
    "papers": ["paper_of(house)"],
    "looks": ["lets_by(house, thing)"],
    "moved": ["is_moved(house, thing)", "set_of_things(group)", "set_of_shares(house, part)",
              "set_of_counts(house, kinds, counts)"],
    "pieces": ["pieces(rows)", "holder(rows, thing)", "counts_of(house, kinds, rows)", "marks_of(kinds, rows)"],
    "solving": ["marks_by(table, counts)", "solved(table, marks)", "counts_by(table, marks)"],
    "sums": ["beside(one, other)", "paired(one, other)", "pair_counts(house, kinds, i, j)"],
    "rests": ["growths(house, kinds)", "stayer_sums(house, kinds, marks)", "first_uneven(house, kinds, marks)"],
    "colours": ["colour_marks(kinds, rows, colours)", "patterns_by(house, kinds, rows, colours)",
                "patterns(rows, colours)", "amount_marks(kinds, rows, amounts)",
                "amounts_by(house, kinds, rows, amounts)", "amounts_in_all(house, kinds, rows, amounts)"],
    "within": ["house_of_part(house, part)", "lie_in(house, kinds, part)", "seen(house, kinds, part, counts)",
               "seen_set(rows, part)"],
    "grown": ["grown(house, kinds, part, counts)", "grown_set(house, part, rows)", "ways(counts, marks)"],
    "leadings": ["is_leading(house, other, thing)", "leading_of(house, other, numbers, goals)", "core(leading)",
                 "image(leading, part)", "seen_by(rows, leading)", "seen_counts(house, other, leading, counts)",
                 "grown_counts(house, other, leading, counts)"],
    "names": ["named_group(group, names)", "named_house(house, order)", "named_part(part, order)"],
    "alike": ["same_tables(one, other)"],
    "texts": ["show_turn(turn)", "show_book(many, turns, sets)"],
    "reader": ["read_turn(many, text)", "read_book(text)"],
}


# L23.
ITERATED = "zip enumerate reversed range items keys values".split()
TAKERS = "list tuple dict sorted sum any all enumerate zip bytes min max reversed len".split()


def called(node):
    """The name of what is called, a function or a method."""
    return node.func.id if isinstance(node.func, ast.Name) else getattr(node.func, "attr", None)


def files():
    return sorted(PACKAGE.rglob("*.py"))


def trees():
    return [(path.name, ast.parse(path.read_text("utf-8"))) for path in files()]


def bound_in(tree):
    """Every name that a file binds anywhere, but for attributes."""
    names = []
    for node in ast.walk(tree):
        if isinstance(node, ast.Name) and not isinstance(node.ctx, ast.Load):
            names.append(node.id)
        elif isinstance(node, (ast.FunctionDef, ast.ClassDef)):
            names.append(node.name)
        elif isinstance(node, ast.arg):
            names.append(node.arg)
        elif isinstance(node, ast.ImportFrom):
            names.extend(alias.asname or alias.name for alias in node.names)
        elif isinstance(node, ast.ExceptHandler) and node.name:
            names.append(node.name)
    return names


def locals_in(tree):
    """The parameters and the names that functions assign."""
    names = []
    for function in ast.walk(tree):
        if isinstance(function, ast.FunctionDef):
            for node in ast.walk(function):
                if isinstance(node, ast.arg):
                    names.append(node.arg)
                elif isinstance(node, ast.Name) and not isinstance(node.ctx, ast.Load):
                    names.append(node.id)
    return names


class TestFiles(unittest.TestCase):
    def test_the_folder_holds_files_of_the_package_alone(self):
        found = [path for path in PACKAGE.rglob("*") if "__pycache__" not in path.parts]
        self.assertIn(PACKAGE / "__init__.py", found)
        for path in found:
            self.assertRegex(path.name, r"^[a-z0-9_]+\.py$")

    def test_signs_and_sizes(self):
        for path in files():
            text = path.read_bytes().decode("utf-8")
            self.assertRegex(text, r"\A[ -~\n]*\Z", path.name)
            lines = text.split("\n")
            self.assertLessEqual(len(lines), 399, path.name)
            self.assertLessEqual(max(len(line) for line in lines), 120, path.name)

    def test_functions_are_short(self):
        for name, tree in trees():
            for node in ast.walk(tree):
                if isinstance(node, ast.FunctionDef):
                    self.assertLessEqual(node.end_lineno - node.lineno + 1, 40, f"{name}: {node.name}")

    def test_words_that_are_barred(self):
        for path in files():
            text = path.read_text("utf-8")
            for word in WORDS:
                self.assertIsNone(re.search(rf"\b{word}\b", text), f"{path.name}: {word}")
            for word in ("dataclass", "overload", "contextmanager"):
                self.assertNotIn(word, text)


class TestRules(unittest.TestCase):
    def test_imports_come_from_the_package_alone(self):
        defined = {f"heldmarks.{name[:-3]}": {node.name for node in tree.body if hasattr(node, "name")}
                   | {target.id for node in tree.body if isinstance(node, ast.Assign) for target in node.targets}
                   for name, tree in trees()}
        for name, tree in trees():
            for node in ast.walk(tree):
                self.assertNotIsInstance(node, ast.Import, name)
                if isinstance(node, ast.ImportFrom):
                    self.assertIn(node, tree.body, name)
                    self.assertEqual(node.level, 0, name)
                    for alias in node.names:
                        self.assertIn(alias.name, defined[node.module], name)

    def test_no_two_files_import_each_other(self):
        needs = {f"heldmarks.{name[:-3]}": {node.module for node in tree.body if isinstance(node, ast.ImportFrom)}
                 for name, tree in trees()}
        while needs:
            free = [name for name in needs if not needs[name] & set(needs)]
            self.assertTrue(free, needs)
            for name in free:
                del needs[name]

    def test_module_level(self):
        allowed = (ast.ImportFrom, ast.FunctionDef, ast.ClassDef, ast.Assign)
        for name, tree in trees():
            self.assertIsNotNone(ast.get_docstring(tree), name)
            for node in tree.body[1:]:
                self.assertIsInstance(node, allowed, name)

    def test_names(self):
        for name, tree in trees():
            imports = {alias.name for node in tree.body if isinstance(node, ast.ImportFrom) for alias in node.names}
            classes = {node.name for node in tree.body if isinstance(node, ast.ClassDef)}
            for bound in bound_in(tree):
                self.assertNotIn(bound, dir(builtins), name)
                if bound not in DUNDERS:
                    self.assertRegex(bound, r"^[A-Za-z][A-Za-z0-9_]*$", name)
            for bound in locals_in(tree):
                self.assertNotIn(bound, imports | classes, name)

    def test_names_that_are_read(self):
        for name, tree in trees():
            own = set(bound_in(tree))
            for node in ast.walk(tree):
                if isinstance(node, ast.Name) and isinstance(node.ctx, ast.Load):
                    self.assertIn(node.id, own | BUILTINS, name)

    def test_methods_that_are_called(self):
        own = {node.name for _, tree in trees() for node in ast.walk(tree) if isinstance(node, ast.FunctionDef)}
        for name, tree in trees():
            for node in ast.walk(tree):
                if isinstance(node, ast.Call) and isinstance(node.func, ast.Attribute):
                    self.assertIn(node.func.attr, METHODS | own, name)

    def test_statements_and_expressions(self):
        barred = (ast.Global, ast.AsyncFunctionDef, ast.Await, ast.Div, ast.MatMult)
        for name, tree in trees():
            for node in ast.walk(tree):
                self.assertNotIsInstance(node, barred, name)
                if isinstance(node, ast.Constant):
                    self.assertNotIsInstance(node.value, (float, complex), name)
                    if isinstance(node.value, str):
                        self.assertNotIn("%", node.value, name)
                if isinstance(node, ast.Compare) and isinstance(node.ops[0], (ast.Is, ast.IsNot)):
                    self.assertIsInstance(node.comparators[0], ast.Constant, name)
                if isinstance(node, (ast.FunctionDef, ast.ClassDef)):
                    self.assertEqual(node.decorator_list, [], name)

    def test_errors_that_are_caught(self):
        # L19: none but the package's own are, so nothing is asked of what stands in the try.
        own = {node.name for name, tree in trees() if name == "errors.py" for node in tree.body
               if isinstance(node, ast.ClassDef)}
        for name, tree in trees():
            for node in ast.walk(tree):
                if isinstance(node, ast.Try):
                    self.assertEqual((node.finalbody, node.orelse), ([], []), name)
                    for handler in node.handlers:
                        self.assertIn(getattr(handler.type, "id", None), own, name)

    def test_functions_of_tables_are_named_first(self):
        # L3: what is called is a name or an attribute, never an item of a table.
        for name, tree in trees():
            for node in ast.walk(tree):
                if isinstance(node, ast.Call):
                    self.assertIsInstance(node.func, (ast.Name, ast.Attribute), name)

    def test_what_is_iterated_at_once(self):
        # L23: after the `in` of a loop, or as an argument of what takes it up there.
        for name, tree in trees():
            taken = set()
            for node in ast.walk(tree):
                if isinstance(node, (ast.For, ast.comprehension)):
                    taken.add(node.iter)
                elif isinstance(node, ast.Call) and isinstance(node.func, ast.Name) and node.func.id in TAKERS:
                    taken.update(node.args)
            for node in ast.walk(tree):
                if isinstance(node, ast.Call) and called(node) in ITERATED:
                    self.assertIn(node, taken, f"{name}: {node.lineno}")

    def test_where_sets_stand(self):
        # L24, but for how a stored set is used.
        for name, tree in trees():
            taken = set()
            for node in ast.walk(tree):
                if isinstance(node, ast.Assign) and isinstance(node.targets[0], ast.Name):
                    taken.add(node.value)
                elif isinstance(node, ast.Call) and called(node) in ("sorted", "len"):
                    taken.update(node.args)
                elif isinstance(node, ast.Compare):
                    taken.update(node.comparators)
            for node in ast.walk(tree):
                if isinstance(node, (ast.Set, ast.SetComp)) or isinstance(node, ast.Call) and called(node) == "set":
                    self.assertIn(node, taken, f"{name}: {node.lineno}")

    def test_powers_have_literal_exponents(self):
        for name, tree in trees():
            for node in ast.walk(tree):
                if isinstance(node, (ast.BinOp, ast.AugAssign)) and isinstance(node.op, ast.Pow):
                    exponent = node.right if isinstance(node, ast.BinOp) else node.value
                    self.assertIsInstance(exponent, ast.Constant, name)

    def test_the_interface_stands_in_its_files(self):
        found = {name[:-3]: [f"{node.name}({', '.join(arg.arg for arg in node.args.args)})"
                             for node in tree.body if isinstance(node, ast.FunctionDef)] for name, tree in trees()}
        for name, heads in INTERFACE.items():
            for head in heads:
                self.assertIn(head, found[name], name)

    def test_the_desk_has_its_methods_itself(self):
        [desk] = [node for name, tree in trees() if name == "desk.py" for node in tree.body
                  if isinstance(node, ast.ClassDef)]
        heads = {node.name: [arg.arg for arg in node.args.args] for node in desk.body
                 if isinstance(node, ast.FunctionDef)}
        self.assertEqual((desk.name, heads["__init__"], heads["say"]), ("Desk", ["self", "text"], ["self", "row"]))


if __name__ == "__main__":
    unittest.main()
