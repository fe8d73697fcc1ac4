"""Those rules of the language's document that can be seen from the code."""

import ast
import builtins
import pathlib
import re
import unittest

ROOT = pathlib.Path(__file__).resolve().parent.parent
FILES = sorted((ROOT / "shadowruns").glob("**/*.py"))
BUILTINS = set("""
    len range enumerate zip min max sum abs sorted reversed int str bool bytes list tuple dict set frozenset
    isinstance ord repr any all divmod pow getattr hasattr setattr iter next map type Exception ValueError TypeError
    KeyError IndexError LookupError ZeroDivisionError ArithmeticError OverflowError RuntimeError NotImplementedError
    AttributeError StopIteration NotImplemented super property staticmethod classmethod
""".split())
NEVER = set("""
    register mro elements open input law version_info with_traceback add_note format format_map attrgetter breakpoint
    builtins compile copyright credits delattr dir eval exec gc globals help id importlib license locals methodcaller
    os quit vars sys
""".split())
NO_WORDS = re.compile(
    r"\b(typing|typing_extensions|enum|Enum|IntEnum|StrEnum|Flag|IntFlag|Generic|Protocol|ABC|ABCMeta|namedtuple"
    r"|NamedTuple|TypedDict|TYPE_CHECKING|abstractmethod)\b|dataclass|overload|contextmanager|_wall|_WallAttr")
METHODS = set("""
    append clear copy count endswith extend find get index insert isalnum isalpha isdigit islower isspace isupper items
    join keys ljust lower lstrip partition pop remove replace reverse rfind rjust rpartition rsplit rstrip setdefault
    split splitlines startswith strip update upper values zfill bit_length title capitalize swapcase casefold center
    expandtabs removeprefix removesuffix rindex isascii isdecimal isnumeric istitle isidentifier isprintable add discard
    sort __init__
""".split())
NO_ATTRIBUTES = set("""
    items keys values pop update append clear extend insert remove reverse setdefault sort args encode decode hex
    fromhex format
""".split())
LIBRARY = {
    "heapq": {"heappush", "heappop", "heapify", "heapreplace", "heappushpop"},
    "math": {"gcd", "lcm", "isqrt", "comb", "perm", "factorial"},
    "itertools": {"product", "combinations", "permutations", "chain", "accumulate", "pairwise", "islice",
                  "zip_longest"},
    "collections": {"defaultdict", "deque"},
}
NO_NODES = (ast.Global, ast.AsyncFunctionDef, ast.Await, ast.AsyncFor, ast.AsyncWith, ast.Div)


def trees():
    """Each file's path, text and tree."""
    for path in FILES:
        text = path.read_text(encoding="utf-8")
        yield path, text, ast.parse(text)


def bound_names(tree):
    """All names that a file gives to something, with the node that does."""
    for node in ast.walk(tree):
        if isinstance(node, ast.Name) and not isinstance(node.ctx, ast.Load):
            yield node.id, node
        elif isinstance(node, ast.arg):
            yield node.arg, node
        elif isinstance(node, (ast.FunctionDef, ast.ClassDef)):
            yield node.name, node
        elif isinstance(node, ast.alias):
            yield node.asname or node.name, node


class Language(unittest.TestCase):
    def test_the_folder_holds_files_of_the_language_only(self):
        self.assertIn(ROOT / "shadowruns" / "__init__.py", FILES)
        for path in (ROOT / "shadowruns").glob("**/*"):
            if "__pycache__" not in path.parts:
                self.assertTrue(path.suffix == ".py" and re.fullmatch(r"[a-z0-9_]+", path.stem), path)

    def test_lines_and_signs(self):
        for path, text, _ in trees():
            self.assertLessEqual(len(text.splitlines()), 399, path)
            for line in text.splitlines():
                self.assertLessEqual(len(line), 120, (path, line))
            self.assertRegex(text, r"\A[ -~\n]*\Z", path)

    def test_functions_are_short(self):
        for path, _, tree in trees():
            for node in ast.walk(tree):
                if isinstance(node, (ast.FunctionDef, ast.Lambda)):
                    self.assertLessEqual(node.end_lineno - node.lineno + 1, 40, (path, node.lineno))

    def test_module_level(self):
        for path, _, tree in trees():
            self.assertIsInstance(tree.body[0], ast.Expr, path)
            for node in tree.body[1:]:
                self.assertIsInstance(node, (ast.ImportFrom, ast.FunctionDef, ast.ClassDef, ast.Assign), path)
                if isinstance(node, ast.Assign):
                    self.assertEqual(len(node.targets), 1)
                    self.assertIsInstance(node.targets[0], ast.Name, path)
                    self.assertFalse([part for part in ast.walk(node.value) if isinstance(part, ast.Call)], path)

    def test_imports(self):
        own = {"shadowruns." + path.stem: path for path in FILES}
        for path, _, tree in trees():
            for node in ast.walk(tree):
                self.assertNotIsInstance(node, ast.Import, path)
                if isinstance(node, ast.ImportFrom):
                    self.assertIn(node, tree.body, path)
                    self.assertEqual(node.level, 0, path)
                    names = [alias.name for alias in node.names]
                    self.assertTrue(all(alias.asname is None for alias in node.names), path)
                    if node.module in LIBRARY:
                        self.assertLessEqual(set(names), LIBRARY[node.module], path)
                    else:
                        self.assertIn(node.module, own, path)
                        defined = ast.parse(own[node.module].read_text()).body
                        there = {part.name for part in defined if isinstance(part, (ast.FunctionDef, ast.ClassDef))}
                        there |= {part.targets[0].id for part in defined if isinstance(part, ast.Assign)}
                        self.assertLessEqual(set(names), there, path)

    def test_no_two_files_import_from_each_other(self):
        needs = {}
        for path, _, tree in trees():
            found = [node.module for node in tree.body if isinstance(node, ast.ImportFrom)]
            needs["shadowruns." + path.stem] = {name for name in found if name not in LIBRARY}
        while needs:
            free = [name for name in needs if not needs[name] & set(needs)]
            self.assertTrue(free, needs)
            for name in free:
                del needs[name]

    def test_names(self):
        for path, _, tree in trees():
            methods = {node for part in ast.walk(tree) if isinstance(part, ast.ClassDef) for node in part.body}
            for name, node in bound_names(tree):
                where = (path, name, node.lineno)
                self.assertNotIn(name, NEVER, where)
                self.assertRegex(name, r"\A(_?[A-Za-z][A-Za-z0-9_]*|_|__[a-z]+__)\Z", where)
                if node not in methods:
                    self.assertFalse(hasattr(builtins, name), where)
            for node in ast.walk(tree):
                if isinstance(node, ast.Attribute):
                    self.assertNotIn(node.attr, NEVER, path)

    def test_names_within_functions_are_no_imports_and_no_classes(self):
        for path, _, tree in trees():
            taken = {alias.name for node in tree.body if isinstance(node, ast.ImportFrom) for alias in node.names}
            taken |= {node.name for node in tree.body if isinstance(node, ast.ClassDef)}
            for outer in tree.body:
                if isinstance(outer, (ast.FunctionDef, ast.ClassDef)):
                    for name, node in bound_names(outer):
                        if node is not outer:
                            self.assertNotIn(name, taken, (path, node.lineno))

    def test_names_at_module_level_are_bound_once(self):
        for path, _, tree in trees():
            names = []
            for node in tree.body:
                if isinstance(node, ast.ImportFrom):
                    names.extend(alias.name for alias in node.names)
                elif isinstance(node, (ast.FunctionDef, ast.ClassDef)):
                    names.append(node.name)
                elif isinstance(node, ast.Assign):
                    names.append(node.targets[0].id)
            self.assertEqual(len(names), len(set(names)), path)

    def test_attributes(self):
        methods = {}
        assigned = {}
        for path, _, tree in trees():
            for node in ast.walk(tree):
                if isinstance(node, ast.ClassDef):
                    methods[node.name] = {part.name for part in node.body if isinstance(part, ast.FunctionDef)}
                    assigned[node.name] = {
                        part.attr for part in ast.walk(node)
                        if isinstance(part, ast.Attribute) and isinstance(part.ctx, ast.Store)
                    }
        for name, attributes in assigned.items():
            self.assertFalse(attributes & NO_ATTRIBUTES, name)
            self.assertFalse(attributes & set().union(*methods.values()), name)

    def test_iterators_are_used_at_once(self):
        for path, _, tree in trees():
            for node in ast.walk(tree):
                self.assertNotIsInstance(node, (ast.GeneratorExp, ast.Yield, ast.YieldFrom, ast.SetComp, ast.Set), path)
                if isinstance(node, ast.Call):
                    for part in node.args:
                        if isinstance(part, ast.Starred):
                            self.assertIsInstance(part.value, (ast.Name, ast.Attribute), (path, node.lineno))
                    if isinstance(node.func, ast.Name) and node.func.id == "set":
                        # only directly in sorted(..) or len(..) here
                        outer = [part for part in ast.walk(tree) if isinstance(part, ast.Call) and node in part.args]
                        self.assertIn(outer[0].func.id, ("sorted", "len"), (path, node.lineno))

    def test_builtins_and_methods(self):
        own = {node.name for _, _, tree in trees() for node in ast.walk(tree) if isinstance(node, ast.FunctionDef)}
        for path, _, tree in trees():
            for node in ast.walk(tree):
                if isinstance(node, ast.Name) and hasattr(builtins, node.id):
                    self.assertIn(node.id, BUILTINS, (path, node.lineno))
                if isinstance(node, ast.Call) and isinstance(node.func, ast.Attribute):
                    self.assertIn(node.func.attr, METHODS | own, (path, node.lineno))

    def test_statements_and_values(self):
        for path, text, tree in trees():
            code = "\n".join(line.split("#")[0] for line in text.splitlines())
            self.assertIsNone(NO_WORDS.search(code), path)
            for node in ast.walk(tree):
                self.assertNotIsInstance(node, NO_NODES, path)
                if isinstance(node, ast.Constant):
                    self.assertNotIsInstance(node.value, (float, complex), path)
                if isinstance(node, ast.Compare) and any(isinstance(op, (ast.Is, ast.IsNot)) for op in node.ops):
                    self.assertIsInstance(node.comparators[-1], ast.Constant, (path, node.lineno))
                if isinstance(node, ast.ExceptHandler):
                    self.assertIsNotNone(node.type, path)

    def test_functions_have_no_decorators(self):
        for path, _, tree in trees():
            for node in tree.body:
                if isinstance(node, (ast.FunctionDef, ast.ClassDef)):
                    self.assertEqual(node.decorator_list, [], path)

    def test_every_function_and_class_is_told(self):
        for path, _, tree in trees():
            self.assertIsNotNone(ast.get_docstring(tree), path)
            for node in tree.body:
                if isinstance(node, (ast.FunctionDef, ast.ClassDef)):
                    self.assertIsNotNone(ast.get_docstring(node), (path, node.name))


class Interface(unittest.TestCase):
    """What the interface lists for the modules that stand is defined in them ([24])."""

    LISTED = {
        "errors": ["BadText", "BadLine", "NoProgram", "Unsafe", "Taken", "NoFunction", "NoRisk", "TooMany"],
        "programs": ["is_program", "variables"],
        "graph": ["points_many", "exit_of", "edges", "fed", "parts", "heads"],
        "running": ["run", "frames_at", "witness"],
        "spans": ["span_join", "span_meet", "span_add", "span_sub", "span_mul", "span_div", "span_mod", "span_widen"],
        "rests": ["rest_join", "rest_meet", "rest_add", "rest_sub", "rest_mul", "rest_div", "rest_mod"],
        "values": ["single", "value_of", "contains", "value_within", "value_join", "value_meet", "value_widen",
                   "value_apply"],
        "gaps": ["no_gaps", "gaps_closed", "gaps_within", "gaps_join", "gaps_meet", "gaps_widen", "gaps_without",
                 "gaps_moved", "gaps_bound"],
        "pieces": ["same_pieces", "pieces_read", "pieces_write", "pieces_within", "pieces_join", "pieces_meet",
                   "pieces_widen"],
        "states": ["entry_state", "covers", "tightened", "state_within", "state_join", "state_meet", "state_widen",
                   "expression_value", "transferred", "called", "returned"],
        "engine": ["Settings", "incoming", "analyse"],
        "checker": ["is_table", "confirms", "first_break", "tables_meet", "tables_within", "first_outside",
                    "result_of"],
        "verdicts": ["risks", "verdict", "verdicts", "faults_in"],
        "splits": ["unrolled", "copied", "parted", "folded"],
        "classes": ["is_naming", "classes", "class_of", "value_of_sort", "classes_meeting", "sort_apply", "sorts_told",
                    "sorts_confirmed", "sorts_cover"],
        "repair": ["carried", "go_on"],
        "session": ["Session"],
        "texts": ["program_text", "program_in", "value_text"],
        "desk": ["answers"],
    }
    NAMED = {"limits": ["GREATEST"], "values": ["EVERY"]}

    def test_each_name_is_defined_in_its_file(self):
        for stem, names in self.LISTED.items():
            tree = ast.parse((ROOT / "shadowruns" / (stem + ".py")).read_text())
            defined = {node.name for node in tree.body if isinstance(node, (ast.FunctionDef, ast.ClassDef))}
            self.assertLessEqual(set(names), defined, stem)

    def test_each_named_value_is_assigned_in_its_file(self):
        for stem, names in self.NAMED.items():
            tree = ast.parse((ROOT / "shadowruns" / (stem + ".py")).read_text())
            assigned = {node.targets[0].id for node in tree.body if isinstance(node, ast.Assign)}
            self.assertLessEqual(set(names), assigned, stem)


if __name__ == "__main__":
    unittest.main()
