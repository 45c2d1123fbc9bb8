"""Whether the files of the package keep to the language that they are to be written in.

It looks at those rules of LANGUAGE.md that a glance at the syntax shows.
"""

import ast
import builtins
import os
import re
import unittest

HERE = os.path.dirname(os.path.abspath(__file__))
PACKAGE = os.path.join(os.path.dirname(HERE), "kindscarried")
NAMES = sorted(name for name in os.listdir(PACKAGE) if name != "__pycache__")

METHODS = set("""append clear copy count endswith extend find get index insert isalnum isalpha isdigit
islower isspace isupper items join keys ljust lower lstrip partition pop remove replace reverse rfind
rjust rpartition rsplit rstrip setdefault split splitlines startswith strip update upper values zfill
bit_length""".split())
BUILTINS = set("""len range enumerate zip min max sum abs sorted reversed int str bool bytes list tuple
dict set frozenset isinstance ord repr any all divmod ValueError KeyError ZeroDivisionError
TypeError IndexError type""".split())
BARRED = set("register mro elements open input law version_info with_traceback add_note".split())
BARRED_NAMES = set("""attrgetter breakpoint builtins compile copyright credits delattr dir eval exec exit
gc getattr globals hasattr help id importlib license locals methodcaller os quit setattr super vars
sys""".split())
BARRED_WORDS = """typing typing_extensions enum Enum IntEnum StrEnum Flag IntFlag Generic Protocol ABC
ABCMeta namedtuple NamedTuple TypedDict TYPE_CHECKING abstractmethod dataclass overload
contextmanager""".split()
STATEMENTS = (ast.Assign, ast.AugAssign, ast.If, ast.While, ast.For, ast.Return, ast.Break, ast.Continue,
              ast.Pass, ast.Raise, ast.Assert, ast.Delete, ast.Try, ast.Expr, ast.FunctionDef, ast.ClassDef)


def source(name):
    with open(os.path.join(PACKAGE, name), encoding="utf-8") as held:
        return held.read()


class Files(unittest.TestCase):
    def each(self):
        for name in NAMES:
            text = source(name)
            yield name, text, ast.parse(text)

    def test_names_of_files(self):
        self.assertIn("__init__.py", NAMES)
        self.assertLessEqual(len(NAMES), 100)
        for name in NAMES:
            self.assertRegex(name, r"^[a-z_][a-z0-9_]*\.py$")
            self.assertNotIn(name[:-3], dir(builtins))

    def test_size_and_characters(self):
        for name, text, _ in self.each():
            lines = text.split("\n")
            self.assertLessEqual(len(lines), 399, name)
            for number, line in enumerate(lines):
                self.assertLessEqual(len(line), 120, (name, number + 1))
                self.assertEqual(line, line.rstrip(), (name, number + 1))
            self.assertRegex(text, r"\A[\n -~]*\Z", name)
            self.assertNotIn("_wall", text)
            for word in BARRED_WORDS:
                self.assertIsNone(re.search(r"\b%s\b" % word, text), (name, word))

    def test_functions_are_small(self):
        for name, _, tree in self.each():
            for node in ast.walk(tree):
                if isinstance(node, ast.FunctionDef):
                    self.assertLessEqual(node.end_lineno - node.lineno + 1, 40, (name, node.name))
                    self.assertEqual(node.decorator_list, [], (name, node.name))
                    self.assertIsNone(node.args.vararg if node.name.startswith("__") else None)

    def test_module_level(self):
        for name, _, tree in self.each():
            bound = []
            for node in tree.body:
                if isinstance(node, ast.ImportFrom):
                    bound.extend(alias.name for alias in node.names)
                elif isinstance(node, (ast.FunctionDef, ast.ClassDef)):
                    bound.append(node.name)
                elif isinstance(node, ast.Assign):
                    self.assertEqual(len(node.targets), 1)
                    bound.append(node.targets[0].id)
                    self.plain(name, node.value, bound, 0)
                else:
                    self.assertIsInstance(node, ast.Expr, name)
                    self.assertIsInstance(node.value, ast.Constant, name)
            self.assertEqual(len(bound), len(set(bound)), name)
            self.assertFalse(set(bound) & set(dir(builtins)), name)

    def plain(self, name, node, bound, depth):
        """A literal; in a table also functions that are defined above."""
        if isinstance(node, ast.Dict):
            self.assertEqual(depth, 0, name)
            for inner in node.keys + node.values:
                self.plain(name, inner, bound, depth + 1)
        elif isinstance(node, (ast.Tuple, ast.List)):
            self.assertFalse(isinstance(node, ast.List) and depth, name)
            for inner in node.elts:
                self.plain(name, inner, bound, depth + 1)
        elif isinstance(node, ast.Name):
            self.assertIn(node.id, bound, name)
            self.assertTrue(depth and node.id.startswith("_"), (name, node.id))
        else:
            value = node.operand if isinstance(node, ast.UnaryOp) else node
            self.assertIsInstance(value, ast.Constant, (name, node.lineno))

    def test_imports(self):
        graph = {}
        for name, _, tree in self.each():
            graph[name[:-3]] = []
            for node in ast.walk(tree):
                self.assertNotIsInstance(node, ast.Import, name)
                if isinstance(node, ast.ImportFrom):
                    self.assertIn(node, tree.body)
                    self.assertEqual(node.level, 0)
                    package, module = node.module.split(".")
                    self.assertEqual(package, "kindscarried")
                    self.assertIn(module + ".py", NAMES)
                    graph[name[:-3]].append(module)
                    defined = [part.name for part in ast.parse(source(module + ".py")).body
                               if isinstance(part, (ast.FunctionDef, ast.ClassDef))]
                    defined += [part.targets[0].id for part in ast.parse(source(module + ".py")).body
                                if isinstance(part, ast.Assign)]
                    for alias in node.names:
                        self.assertIsNone(alias.asname)
                        self.assertIn(alias.name, defined, (name, module))
        done = set()
        while len(done) < len(graph):
            ready = [name for name in graph if name not in done and done.issuperset(graph[name])]
            self.assertTrue(ready, "files that import each other")
            done.update(ready)

    def test_everything_imported_and_defined_is_used(self):
        for name, text, tree in self.each():
            for node in tree.body:
                names = [alias.name for alias in node.names] if isinstance(node, ast.ImportFrom) else []
                if isinstance(node, ast.FunctionDef) and node.name.startswith("_"):
                    names = [node.name]
                for word in names:
                    self.assertGreater(len(re.findall(r"\b%s\b" % word, text)), 1, (name, word))

    def test_statements_and_expressions(self):
        barred = (ast.Set, ast.SetComp, ast.GeneratorExp, ast.Yield, ast.YieldFrom, ast.Await,
                  ast.JoinedStr, ast.NamedExpr, ast.Global, ast.Nonlocal, ast.With, ast.Match)
        for name, _, tree in self.each():
            for node in ast.walk(tree):
                where = (name, getattr(node, "lineno", 0))
                if isinstance(node, ast.stmt) and not isinstance(node, ast.ImportFrom):
                    self.assertIsInstance(node, STATEMENTS, where)
                self.assertNotIsInstance(node, barred, where)
                if isinstance(node, ast.Constant):
                    self.assertNotIsInstance(node.value, (float, complex), where)
                    if isinstance(node.value, str):
                        self.assertNotIn("%", node.value, where)
                if isinstance(node, ast.BinOp):
                    self.assertNotIsInstance(node.op, ast.Div, where)
                if isinstance(node, (ast.ListComp, ast.DictComp)):
                    self.assertLessEqual(len(node.generators), 6, where)
                if isinstance(node, ast.Compare) and isinstance(node.ops[0], (ast.Is, ast.IsNot)):
                    right = node.comparators[0]
                    kinds = ("tuple", "str", "int", "bool", "list")
                    self.assertTrue(isinstance(right, ast.Constant) or right.id in kinds, where)

    def test_names(self):
        every = set(dir(builtins)) - {"_"}
        for name, _, tree in self.each():
            imported = set()
            for node in tree.body:
                if isinstance(node, ast.ImportFrom):
                    imported.update(alias.name for alias in node.names)
                if isinstance(node, ast.ClassDef):
                    imported.add(node.name)
            for node in ast.walk(tree):
                where = (name, getattr(node, "lineno", 0))
                if isinstance(node, ast.Name):
                    if isinstance(node.ctx, ast.Store):
                        self.assertNotIn(node.id, every | imported | BARRED | BARRED_NAMES, where)
                        self.assertNotIn("__", node.id, where)
                    elif node.id in every:
                        self.assertIn(node.id, BUILTINS, where)
                    self.assertFalse(node.id == "_" and isinstance(node.ctx, ast.Load), where)
                if isinstance(node, ast.arg):
                    self.assertNotIn(node.arg, every | imported | BARRED | BARRED_NAMES, where)
                    self.assertIsNone(node.annotation, where)
                if isinstance(node, ast.FunctionDef):
                    self.assertNotIn(node.name, BARRED | BARRED_NAMES | every, where)
                if isinstance(node, ast.Attribute):
                    self.assertNotIn(node.attr, BARRED, where)
                if isinstance(node, ast.keyword):
                    self.assertNotIn(node.arg, BARRED, where)

    def test_attributes_and_methods(self):
        attributes = set()
        methods = set()
        for _, _, tree in self.each():
            for node in ast.walk(tree):
                if isinstance(node, ast.Attribute) and isinstance(node.ctx, ast.Store):
                    attributes.add(node.attr)
                if isinstance(node, ast.ClassDef):
                    methods.update(part.name for part in node.body if isinstance(part, ast.FunctionDef))
        builtin = set()
        for sort in (str, int, list, dict, set, bytes, tuple, range):
            builtin.update(dir(sort))
        self.assertFalse((attributes - {"index", "count"}) & builtin)
        self.assertFalse((methods - {"__init__"}) & builtin)
        for name, _, tree in self.each():
            for node in ast.walk(tree):
                if isinstance(node, ast.Attribute):
                    self.assertIn(node.attr, attributes | methods | METHODS, (name, node.lineno))

    def test_no_name_is_a_method_and_an_attribute(self):
        attributes = set()
        methods = set()
        for _, _, tree in self.each():
            for node in ast.walk(tree):
                if isinstance(node, ast.Attribute) and isinstance(node.ctx, ast.Store):
                    attributes.add(node.attr)
                if isinstance(node, ast.ClassDef):
                    methods.update(part.name for part in node.body if isinstance(part, ast.FunctionDef))
        self.assertFalse(attributes & methods)

    def test_what_is_iterated_at_once(self):
        """zip, enumerate, reversed, range and views stand only where they are gone through on the spot."""
        lazy = {"zip", "enumerate", "reversed", "range"}
        takers = {"list", "tuple", "dict", "sorted", "sum", "any", "all", "enumerate", "zip", "min", "max"}
        for name, _, tree in self.each():
            right = set()
            calls = []
            for node in ast.walk(tree):
                if isinstance(node, (ast.For, ast.comprehension)):
                    right.add(node.iter)
                if isinstance(node, ast.Call):
                    calls.append(node)
                    if isinstance(node.func, ast.Name) and node.func.id in takers:
                        right.add(node.args[0])
                    if isinstance(node.func, ast.Name) and node.func.id == "reversed" and isinstance(node.args[0], ast.Call):
                        if isinstance(node.args[0].func, ast.Name) and node.args[0].func.id == "range":
                            right.add(node.args[0])
                if isinstance(node, ast.Compare) and isinstance(node.ops[0], (ast.In, ast.NotIn)):
                    right.add(node.comparators[0])
            for call in calls:
                plain = isinstance(call.func, ast.Name) and call.func.id in lazy
                view = isinstance(call.func, ast.Attribute) and call.func.attr in ("items", "keys", "values")
                if plain or view:
                    self.assertIn(call, right, (name, call.lineno))

    def test_errors(self):
        for name, _, tree in self.each():
            for node in ast.walk(tree):
                if isinstance(node, ast.Raise):
                    self.assertIsInstance(node.exc, ast.Call, (name, node.lineno))
                    self.assertIsInstance(node.exc.func, ast.Name, (name, node.lineno))
                if isinstance(node, ast.ExceptHandler):
                    caught = node.type.elts if isinstance(node.type, ast.Tuple) else [node.type]
                    for part in caught:
                        self.assertNotIn(part.id, dir(builtins), (name, node.lineno))

    def test_no_loop_changes_what_it_goes_over(self):
        changing = {"append", "extend", "insert", "pop", "remove", "clear", "update", "setdefault", "reverse"}
        for name, _, tree in self.each():
            for node in ast.walk(tree):
                if isinstance(node, ast.For):
                    over = {ast.dump(part).replace("Store", "Load") for part in ast.walk(node.iter)
                            if isinstance(part, (ast.Name, ast.Attribute))}
                    for inner in node.body:
                        for call in ast.walk(inner):
                            if isinstance(call, ast.Call) and isinstance(call.func, ast.Attribute):
                                if call.func.attr in changing:
                                    self.assertNotIn(ast.dump(call.func.value), over, (name, call.lineno))

    def test_the_interface_is_defined_where_it_is_listed(self):
        listed = {
            "errors": ["CarriedError", "InvalidKind", "InvalidCount", "InvalidPart", "Refused", "InvalidText",
                       "InvalidOctets", "InvalidPaper", "IllKinded", "Stuck", "Unfit", "Clash", "Unknown",
                       "NotMet", "Twice", "TooMany", "InvalidCommand"],
            "kinds": ["is_kind", "opened", "opened_first", "unfolded", "shut", "filled", "fits"],
            "source": ["is_source", "term_at", "places_of"],
            "source_texts": ["source_told", "source_text"],
            "finding": ["found"],
            "finding_judge": ["is_finding"],
            "data_kinds": ["carried_kind"],
            "to_core": ["to_core"],
            "source_run": ["run_source"],
            "core": ["evaluated", "is_done", "raised", "put_in"],
            "core_looker": ["core_kind", "core_judged"],
            "core_steps": ["stepped", "run_steps"],
            "core_run": ["run_core"],
            "turns": ["is_turns"],
            "turns_looker": ["turns_judged"],
            "turns_run": ["run_turns"],
            "to_turns": ["carried", "to_turns"],
            "closed": ["closed_judged"],
            "closed_runs": ["run_closed"],
            "closing": ["closed_kind", "kept_names", "closed_of"],
            "stored": ["stored_judged", "run_stored"],
            "storing": ["stored_kind_of", "stored_of"],
            "alive": ["alive_in", "width_of"],
            "narrowing": ["narrowed"],
            "registers": ["moved_at_once"],
            "codegen": ["code_kind_of", "coded"],
            "looker": ["after_row", "check_end", "looked"],
            "machine": ["first_state", "step", "run", "run_any"],
            "collector": ["reached", "gone", "run_collected"],
            "linker": ["looked_part", "linked"],
            "octets": ["octets_of", "code_told", "run_octets"],
            "papers": ["check_paper", "is_paper", "paper_of", "least_paper", "met", "joined", "forgotten", "run_by_paper"],
            "core_parts": ["size_of"],
            "passes": ["folded", "inlined", "pruned", "optimised"],
            "compiler": ["stages", "compiled", "compiled_text", "run_level", "beat_factor"],
            "commands": ["command_told", "command_text", "outcome_text"],
            "console": ["Console"],
        }
        for module, names in listed.items():
            defined = [node.name for node in ast.parse(source(module + ".py")).body
                       if isinstance(node, (ast.FunctionDef, ast.ClassDef))]
            for name in names:
                self.assertIn(name, defined)


if __name__ == "__main__":
    unittest.main()
