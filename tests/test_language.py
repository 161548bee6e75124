"""The package keeps to the small language it is written in; here are the rules that a reader of trees can see."""

import ast
import builtins
import re
import unittest
from pathlib import Path

FOLDER = Path(__file__).parent.parent / "bitcounts"
LIBRARY = {"heapq": {"heappush", "heappop", "heapify"}, "math": {"gcd", "lcm", "isqrt", "comb"},
           "itertools": {"product", "combinations", "permutations"}}
BUILTINS = set("""len range enumerate zip min max sum abs sorted reversed int str bool list tuple dict set isinstance
    ord repr any all divmod ValueError KeyError LookupError ArithmeticError IndexError ZeroDivisionError TypeError
    NotImplemented property""".split())
METHODS = set("""append clear copy count endswith extend find get index insert isalnum isalpha isdigit islower items
    join keys ljust lower lstrip partition pop remove replace reverse rfind rjust rpartition rsplit rstrip setdefault
    split splitlines startswith strip update upper values zfill bit_length isascii""".split())
SPECIAL = {f"__{name}__" for name in """init eq repr str len enter exit call iter lt le gt ge ne add sub mul floordiv
    mod pow and or xor lshift rshift radd rsub rmul rfloordiv rmod rand ror rxor rlshift rrshift neg pos invert abs bool
    contains getitem setitem""".split()}
BARRED_NODES = (ast.AsyncFunctionDef, ast.AsyncFor, ast.AsyncWith, ast.Await, ast.Global, ast.Div, ast.MatMult,
                ast.GeneratorExp, ast.Set, ast.SetComp, ast.AnnAssign, ast.Delete, ast.Lambda)
COMPREHENSIONS = (ast.ListComp, ast.DictComp)
BARRED_WORDS = set("""register mro elements open input law version_info with_traceback add_note type typing enum Enum
    Flag Generic Protocol ABC namedtuple NamedTuple eval exec compile globals locals vars id exit hash""".split())
# What properties keep as they have worked it out, by the class that has the attribute.
KEPT = {"_word_pile": "Word", "_word_names": "Word", "_formula_names": "Formula", "_pile_rule": "Pile",
        "_pile_rank": "Pile", "_pile_source": "Pile", "_told": "Term", "_integer_lines": "Term", "_source": "Term",
        "_columns": "Source", "_basis": "Source", "_sides": "Rule"}
CHANGING = {"append", "clear", "extend", "insert", "pop", "remove", "reverse", "setdefault", "update"}


def files():
    return sorted(FOLDER.rglob("*.py"))


def trees():
    return [(path.name, ast.parse(path.read_text())) for path in files()]


def nodes(kind):
    return [(name, node) for name, tree in trees() for node in ast.walk(tree) if isinstance(node, kind)]


def functions():
    return nodes(ast.FunctionDef)


def module_names(tree):
    return [node.name for node in tree.body if isinstance(node, (ast.FunctionDef, ast.ClassDef))] + [
        target.id for node in tree.body if isinstance(node, ast.Assign) for target in node.targets]


def created(function):
    """The local names that are only ever given a new list or dict."""
    new, other = set(), {argument.arg for argument in function.args.args}
    for node in ast.walk(function):
        if isinstance(node, ast.Assign):
            # No `[0] * n`: beside classes with `__mul__` the sign does not make a new list plain.
            fresh = isinstance(node.value, (ast.List, ast.Dict, ast.ListComp, ast.DictComp))
            fresh = fresh or ast.unparse(node.value).startswith(("list(", "dict("))
            for target in node.targets:
                if isinstance(target, ast.Name):
                    (new if fresh else other).add(target.id)
    return new - other


class Files(unittest.TestCase):
    def test_sizes_and_characters(self):
        for path in files():
            text = path.read_bytes()
            self.assertTrue(all(code == 10 or 32 <= code < 127 for code in text), path)
            lines = text.decode().split("\n")
            self.assertLess(len(lines), 400, path)
            self.assertLessEqual(max(len(line) for line in lines), 120, path)
        for name, function in functions():
            self.assertLessEqual(function.end_lineno - function.lineno, 39, (name, function.name))

    def test_module_level(self):
        for name, tree in trees():
            for node in tree.body[1:]:
                self.assertIsInstance(node, (ast.ImportFrom, ast.FunctionDef, ast.ClassDef, ast.Assign), name)
            self.assertIsInstance(tree.body[0], ast.Expr, name)

    def test_imports(self):
        defined = {f"bitcounts.{name[:-3]}": module_names(tree) for name, tree in trees()}
        users = {}
        for name, tree in trees():
            for node in ast.walk(tree):
                self.assertNotIsInstance(node, ast.Import, name)
                if isinstance(node, ast.ImportFrom):
                    self.assertEqual(node.level, 0)
                    names = {alias.name for alias in node.names}
                    self.assertTrue(names <= set(LIBRARY.get(node.module, defined.get(node.module, ()))), (name, names))
                    self.assertIn(node, tree.body)
                    users.setdefault(f"bitcounts.{name[:-3]}", set()).add(node.module)
        done = set()
        while users:
            free = [name for name in users if not users[name] & set(users)]
            self.assertTrue(free, f"a circle of imports: {sorted(users)}")
            for name in free:
                done.add(name)
                del users[name]

    def test_each_import_is_used(self):
        for name, tree in trees():
            imported = {alias.name for node in tree.body if isinstance(node, ast.ImportFrom) for alias in node.names}
            read = {node.id for node in ast.walk(tree) if isinstance(node, ast.Name)}
            self.assertEqual(imported - read, set(), name)


class Names(unittest.TestCase):
    def test_builtins(self):
        for name, tree in trees():
            known = set(module_names(tree)) | {
                alias.name for node in tree.body if isinstance(node, ast.ImportFrom) for alias in node.names}
            for node in ast.walk(tree):
                # The examples of README.md, when run, leave a builtin `_` behind.
                if isinstance(node, ast.Name) and node.id not in known | {"_"} and node.id in vars(builtins):
                    self.assertIn(node.id, BUILTINS, name)
                    self.assertIsInstance(node.ctx, ast.Load, (name, node.id))
                if isinstance(node, ast.arg):
                    self.assertNotIn(node.arg, vars(builtins), name)
                if isinstance(node, (ast.FunctionDef, ast.ClassDef)):
                    self.assertNotIn(node.name, vars(builtins), name)

    def test_barred_words(self):
        for name, tree in trees():
            for node in ast.walk(tree):
                for field in ("id", "attr", "arg", "name"):
                    word = getattr(node, field, None)
                    if isinstance(word, str):
                        self.assertNotIn(word, BARRED_WORDS, name)
                        if word not in SPECIAL:
                            self.assertRegex(word, r"\A_?[A-Za-z][A-Za-z0-9_]*\Z|\A_\Z", name)

    def test_locals_have_no_names_of_the_file(self):
        for name, tree in trees():
            known = set(module_names(tree)) | {
                alias.name for node in tree.body if isinstance(node, ast.ImportFrom) for alias in node.names}
            for function in [node for node in ast.walk(tree) if isinstance(node, ast.FunctionDef)]:
                for node in ast.walk(function):
                    if isinstance(node, ast.arg):
                        self.assertNotIn(node.arg, known, (name, node.lineno))
                    if isinstance(node, ast.Name) and isinstance(node.ctx, ast.Store):
                        self.assertNotIn(node.id, known, (name, node.lineno))

    def test_only_functions_and_classes_are_called_by_name(self):
        for name, tree in trees():
            known = set(module_names(tree)) | BUILTINS | {
                alias.name for node in tree.body if isinstance(node, ast.ImportFrom) for alias in node.names}
            for node in ast.walk(tree):
                if isinstance(node, ast.Call):
                    self.assertIsInstance(node.func, (ast.Name, ast.Attribute), (name, node.lineno))
                    if isinstance(node.func, ast.Name) and (name, node.func.id) != ("desks.py", "watch"):
                        self.assertIn(node.func.id, known, (name, node.lineno))

    def test_no_attribute_has_the_name_of_a_property_or_a_method(self):
        attributes = {node.attr for _, node in nodes(ast.Attribute) if isinstance(node.ctx, ast.Store)}
        parts = [part for _, node in nodes(ast.ClassDef) for part in node.body]
        self.assertEqual(attributes & {part.name for part in parts if isinstance(part, ast.FunctionDef)}, set())

    def test_methods_of_builtin_values(self):
        own = {node.name for _, node in functions()}
        for name, node in nodes(ast.Call):
            if isinstance(node.func, ast.Attribute):
                self.assertIn(node.func.attr, METHODS | own, name)

    def test_no_called_method_has_the_name_of_an_attribute(self):
        attributes = {node.attr for _, node in nodes(ast.Attribute) if isinstance(node.ctx, ast.Store)}
        self.assertTrue({"name", "number", "index", "text", "command", "value", "pairs"} <= attributes)
        for name, node in nodes(ast.Call):
            if isinstance(node.func, ast.Attribute):
                self.assertNotIn(node.func.attr, attributes, (name, node.lineno))


def inner_comprehensions(node, outer):
    """All comprehensions within others, each with the names of those around it."""
    found = []
    for child in ast.iter_child_nodes(node):
        if isinstance(child, COMPREHENSIONS):
            own = {name.id for part in child.generators for name in ast.walk(part.target) if isinstance(name, ast.Name)}
            found.extend([(child, own, outer)] if outer else [])
            found.extend(inner_comprehensions(child, outer | own))
        else:
            found.extend(inner_comprehensions(child, outer))
    return found


class Comprehensions(unittest.TestCase):
    def test_names_within_others(self):
        for name, function in functions():
            inner = inner_comprehensions(function, set())
            within = {id(node) for child in ast.walk(function) if isinstance(child, COMPREHENSIONS)
                      for node in ast.walk(child)}
            assigned = {node.id for node in ast.walk(function) if isinstance(node, ast.Name)
                        and isinstance(node.ctx, ast.Store) and id(node) not in within}
            assigned |= {argument.arg for argument in function.args.args}
            for child, own, outer in inner:
                self.assertEqual(own & (outer | assigned), set(), (name, function.name, child.lineno))


class Statements(unittest.TestCase):
    def test_barred_nodes(self):
        for name, node in nodes(BARRED_NODES):
            self.fail(f"{name}:{getattr(node, 'lineno', '')} {type(node).__name__}")

    def test_constants(self):
        for name, node in nodes(ast.Constant):
            self.assertNotIsInstance(node.value, (float, complex), name)
            if isinstance(node.value, str):
                self.assertNotIn("%", node.value, name)

    def test_decorators_and_parameters(self):
        for name, function in functions():
            for mark in function.decorator_list:
                self.assertEqual(ast.unparse(mark), "property", name)
            self.assertEqual(function.args.posonlyargs, [], name)
            if function.name in SPECIAL:
                self.assertFalse(function.args.defaults or function.args.kwonlyargs, name)
            elif function.name.startswith("__"):
                self.fail(f"{name}: {function.name}")

    def test_classes(self):
        for name, node in nodes(ast.ClassDef):
            methods = {part.name for part in node.body if isinstance(part, ast.FunctionDef)}
            self.assertEqual(node.decorator_list, [], name)
            if node.bases:
                self.assertFalse(methods & {"__radd__", "__rsub__", "__rmul__"}, name)
            for part in node.body:
                self.assertTrue(isinstance(part, ast.FunctionDef) or isinstance(part, ast.Expr), name)

    def test_is(self):
        for name, node in nodes(ast.Compare):
            for sign, side in zip(node.ops, node.comparators):
                if isinstance(sign, (ast.Is, ast.IsNot)):
                    self.assertIn(ast.unparse(side), ("None", "True", "False"), name)

    def test_augmented_assignments(self):
        for name, node in nodes(ast.AugAssign):
            self.assertTrue(isinstance(node.op, ast.Add) and isinstance(node.value, ast.Constant), name)
            self.assertIsInstance(node.target, ast.Name, name)

    def test_exponents_are_literals(self):
        for name, node in nodes(ast.BinOp):
            if isinstance(node.op, ast.Pow):
                self.assertIn(ast.unparse(node.right), [str(number) for number in range(65)], name)

    def test_sorted_takes_plain_numbers_or_strings(self):
        for name, node in nodes(ast.Call):
            if isinstance(node.func, ast.Name) and node.func.id in ("sorted", "min", "max"):
                self.assertTrue(re.match(r"\w+\((\[(int|str|len)\(|0, )", ast.unparse(node)), (name, ast.unparse(node)))

    def test_only_new_lists_and_dicts_are_changed(self):
        for name, function in functions():
            own = created(function)
            for node in ast.walk(function):
                if isinstance(node, ast.Call) and isinstance(node.func, ast.Attribute) and node.func.attr in CHANGING:
                    self.assertIn(ast.unparse(node.func.value), own, (name, function.name))
                if isinstance(node, ast.Subscript) and isinstance(node.ctx, ast.Store):
                    # A line of the console keeps a formula at its desk.
                    kept = (name, function.name) == ("console.py", "_keep")
                    self.assertTrue(kept or ast.unparse(node.value) in own, (name, function.name))
                if isinstance(node, ast.Attribute) and isinstance(node.ctx, ast.Store):
                    self.assertEqual(ast.unparse(node.value), "self", name)
                    deed = name == "desks.py" and function.name in ("do_all", "undo", "_do")
                    self.assertTrue(deed or function.name == "__init__" or node.attr in KEPT, (name, function.name))

    def test_kept_answers(self):
        for kept, owner in KEPT.items():
            users = [(node.name, part.name, part) for _, node in nodes(ast.ClassDef) for part in node.body
                     if any(isinstance(inner, ast.Attribute) and inner.attr == kept for inner in ast.walk(part))]
            self.assertEqual([user[0] for user in users], [owner, owner], kept)
            (_, first, _), (_, _, asking) = users
            self.assertEqual((first, ast.unparse(asking.decorator_list[0])), ("__init__", "property"))
            test, end = asking.body
            self.assertEqual(ast.unparse(test.test), f"self.{kept} is None")
            self.assertEqual((len(test.body), len(test.orelse)), (1, 0))
            self.assertTrue(ast.unparse(test.body[0]).startswith(f"self.{kept} = "))
            self.assertEqual(ast.unparse(end), f"return self.{kept}")
            whole = sum(isinstance(node, ast.Attribute) and node.attr == kept for _, node in nodes(ast.Attribute))
            self.assertEqual(whole, 4)


if __name__ == "__main__":
    unittest.main()
