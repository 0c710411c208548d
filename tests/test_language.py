"""The shape of the package: its interface, and those rules of its subset of Python that are plain to see."""

import ast
import builtins
import pathlib
import re
import unittest

ROOT = pathlib.Path(__file__).resolve().parent.parent
PACKAGE = ROOT / "lentdoors"

# What the interface lists for each module: functions and constants, and classes with their methods.
INTERFACE = {
    "lentdoors.errors": {
        name: () for name in (
            "DoorError", "InvalidKind", "InvalidNet", "InvalidDoor", "InvalidTalk", "InvalidChain", "InvalidSort",
            "InvalidTable", "InvalidMap", "InvalidOperation", "InvalidCommand", "ParseError", "UnknownName",
            "InvalidNumber", "NothingToUndo", "Unheard", "TooMany",
        )
    },
    "lentdoors.base.kinds": {
        name: None for name in (
            "LENDINGS", "LETTINGS", "TURNINGS", "is_name", "is_kind", "is_door", "is_as_loose", "kinds",
        )
    },
    "lentdoors.base.nets": {
        "Net": (
            "__init__", "boxes", "hosts", "tellers", "known", "areas", "area_of", "areas_of", "kind_of", "hosts_in",
            "boxes_between", "with_kind", "with_teller", "with_known", "with_host", "with_box", "without",
            "with_twin", "renamed", "is_within", "__contains__", "__iter__", "__len__", "__eq__", "__str__",
        ),
    },
    "lentdoors.live.boxes": {
        "LiveBox": (
            "__init__", "lend", "lets_in", "inner", "used", "doors", "__iter__", "__len__", "__contains__",
            "address", "kind", "__eq__", "__str__",
        ),
    },
    "lentdoors.live.nets": {
        "MAX_MESSAGES": None,
        "LiveNet": (
            "__init__", "send", "round", "knows", "heard", "log", "box", "net", "back", "copy", "__len__", "__iter__",
            "__eq__", "__str__",
        ),
    },
    "lentdoors.live.talks": {
        "MAX_TALK": None,
        "Talk": (
            "__init__", "of", "messages", "__getitem__", "__len__", "__iter__", "__add__", "without", "senders",
            "__eq__", "__str__",
        ),
        "fits": None, "carried": None, "hearers": None,
    },
    "lentdoors.chain.chains": {
        name: None for name in (
            "LOOKS", "CHAIN_KINDS", "chain_kind", "joined_kinds", "chain_of", "boxes_for", "is_as_loose_chain",
            "lets_in_by",
        )
    },
    "lentdoors.chain.parting": {name: None for name in ("put_behind", "parting", "is_parting")},
    "lentdoors.know.sorts": {
        name: None for name in (
            "is_sort", "is_single", "sorts", "own_sort", "grade", "address_of", "source_sort", "used_sorts",
            "live_sort",
        )
    },
    "lentdoors.know.tables": {
        name: None for name in ("is_table", "is_closed", "read_message", "first_table", "rounds", "least_table")
    },
    "lentdoors.know.hearing": {
        name: None for name in ("hears", "hearing_paper", "is_hearing_paper", "talk_to", "lines")
    },
    "lentdoors.know.short": {
        name: None for name in (
            "is_goal", "reaches", "part", "is_short", "shortened", "short_talk", "least_round", "crews",
        )
    },
    "lentdoors.wide.relations": {
        "Hearing": (
            "__init__", "__getitem__", "speakers_of", "listeners_of", "pairs", "__iter__", "__len__", "__contains__",
            "both", "lined", "relay", "bars", "is_within", "__sub__", "__eq__", "__str__", "net",
        ),
        "are_alike": None,
    },
    "lentdoors.wide.maps": {
        "NetMap": (
            "__init__", "within", "net", "other", "hosts", "boxes", "__getitem__", "area", "__call__", "__mul__",
            "dissolved", "is_one_to_one", "__eq__", "__str__",
        ),
        "is_map": None, "maps": None,
    },
    "lentdoors.wide.openings": {
        name: None for name in (
            "MAX_LOTS", "fulfils", "lots", "net_of", "frontier", "is_frontier", "decided",
        )
    },
    "lentdoors.wide.helps": {
        name: None for name in ("MAX_HELPS", "with_helps", "help_paper", "is_help_paper", "bars_of", "roles")
    },
    "lentdoors.wide.choices": {
        name: None for name in ("price_of", "ranked", "choice_paper", "is_choice_paper", "excludes")
    },
    "lentdoors.texts.writing": {
        name: None for name in ("net_text", "talk_text", "sort_text", "table_text", "grid_text")
    },
    "lentdoors.texts.reading": {
        name: None for name in ("read_net", "read_talk", "read_sort", "read_table", "read_grid")
    },
    "lentdoors.desk.desk": {
        "MAX_WORKS": None, "MAX_CHANGES": None,
        "Desk": (
            "__init__", "run", "run_all", "works", "net_of", "talk_of", "live_of", "script", "__contains__",
            "__len__", "__eq__", "__str__",
        ),
    },
}

BUILTINS = set((
    "len range enumerate zip min max sum abs sorted reversed int str bool bytes list tuple dict set isinstance ord "
    "repr any all divmod pow iter next super property staticmethod classmethod map NotImplemented "
    "Exception ValueError TypeError KeyError IndexError LookupError ZeroDivisionError ArithmeticError "
    "OverflowError RuntimeError NotImplementedError AttributeError StopIteration"
).split())
METHODS = set((
    "append clear copy count endswith extend find get index insert isalnum isalpha isdigit islower isspace isupper "
    "items join keys ljust lower lstrip partition pop remove replace reverse rfind rjust rpartition rsplit rstrip "
    "setdefault split splitlines startswith strip update upper values zfill bit_length add discard"
).split())
ITERATED_AT_ONCE = ("range", "zip", "enumerate", "reversed", "map")
ITERATING = ("list", "tuple", "dict", "sorted", "sum", "any", "all", "min", "max", "enumerate", "zip", "len")
OPERATORS = (
    "__add__", "__contains__", "__eq__", "__getitem__", "__iter__", "__len__", "__mul__", "__repr__", "__str__",
    "__sub__",
)
BARRED = re.compile(
    r"\b(typing|typing_extensions|enum|Enum|IntEnum|StrEnum|Flag|IntFlag|Generic|Protocol|ABC|ABCMeta|namedtuple"
    r"|NamedTuple|TypedDict|TYPE_CHECKING|abstractmethod)\b|dataclass|overload|contextmanager|_wall|_WallAttr"
)
NODES = (
    ast.AsyncFunctionDef, ast.AsyncFor, ast.AsyncWith, ast.Await, ast.Global, ast.Import, ast.Div, ast.MatMult,
)


def module_name(path):
    parts = list(path.relative_to(ROOT).with_suffix("").parts)
    return ".".join(parts[:-1] if parts[-1] == "__init__" else parts)


FILES = {module_name(path): path for path in sorted(PACKAGE.rglob("*.py"))}
TREES = {name: ast.parse(path.read_text(encoding="utf-8")) for name, path in FILES.items()}


def bound_names(tree):
    """The names that the file itself defines at module level, with what defines them."""
    found = {}
    for node in tree.body:
        if isinstance(node, (ast.FunctionDef, ast.ClassDef)):
            found[node.name] = node
        if isinstance(node, ast.Assign):
            found[node.targets[0].id] = node
    return found


def parents(tree):
    """For each node that stands in another one, this other one."""
    return {part: node for node in ast.walk(tree) for part in ast.iter_child_nodes(node)}


def imports(tree):
    return [node for node in ast.walk(tree) if isinstance(node, ast.ImportFrom)]


def own_methods():
    return {
        part.name for tree in TREES.values() for node in ast.walk(tree) if isinstance(node, ast.ClassDef)
        for part in node.body if isinstance(part, ast.FunctionDef)
    }


class Interface(unittest.TestCase):
    def test_each_name_is_defined_in_its_file(self):
        for module, names in INTERFACE.items():
            found = bound_names(TREES[module])
            for name, methods in names.items():
                self.assertIn(name, found, module)
                self.assertEqual(isinstance(found[name], ast.ClassDef), methods is not None, name)

    def test_each_method_is_defined_in_its_class(self):
        for module, names in INTERFACE.items():
            found = bound_names(TREES[module])
            for name, methods in names.items():
                own = [part.name for part in getattr(found[name], "body", ()) if isinstance(part, ast.FunctionDef)]
                self.assertEqual([method for method in methods or () if method not in own], [], name)


class Files(unittest.TestCase):
    def test_the_folder_holds_nothing_else(self):
        for path in PACKAGE.rglob("*"):
            if "__pycache__" in path.parts:
                continue
            if path.is_dir():
                self.assertTrue((path / "__init__.py").is_file(), path)
                self.assertFalse(path.with_suffix(".py").exists(), path)
            else:
                self.assertRegex(path.name, r"^([a-z][a-z0-9_]*|__init__|__main__)\.py$")

    def test_sizes_and_characters(self):
        for name, path in FILES.items():
            text = path.read_text(encoding="utf-8")
            self.assertRegex(text, r"\A[ -~\n]*\Z", name)
            lines = text.split("\n")
            self.assertLessEqual(len(lines), 400, name)
            for at, line in enumerate(lines):
                self.assertLessEqual(len(line), 120, (name, at + 1))
            self.assertIsNone(BARRED.search(text), name)

    def test_functions_have_at_most_forty_lines(self):
        for name, tree in TREES.items():
            for node in ast.walk(tree):
                if isinstance(node, ast.FunctionDef):
                    self.assertLessEqual(node.end_lineno - node.lineno + 1, 40, (name, node.name))


class Rules(unittest.TestCase):
    def test_statements_and_signs(self):
        for name, tree in TREES.items():
            for node in ast.walk(tree):
                self.assertNotIsInstance(node, NODES, name)
                if isinstance(node, ast.Constant):
                    self.assertNotIsInstance(node.value, (float, complex), name)
                if isinstance(node, (ast.FunctionDef, ast.ClassDef)):
                    self.assertEqual([ast.unparse(one) for one in node.decorator_list if ast.unparse(one) not in (
                        "property", "staticmethod", "classmethod")], [], node.name)

    def test_imports(self):
        for name, tree in TREES.items():
            for node in imports(tree):
                self.assertIn(node, tree.body, name)
                self.assertEqual(node.level, 0, name)
                self.assertIn(node.module, FILES, name)
                for alias in node.names:
                    self.assertIsNone(alias.asname, name)
                    self.assertIn(alias.name, bound_names(TREES[node.module]), name)

    def test_imported_names_are_used(self):
        for path in [*PACKAGE.rglob("*.py"), *(ROOT / "tests").glob("*.py")]:
            tree = ast.parse(path.read_text(encoding="utf-8"))
            used = {node.id for node in ast.walk(tree) if isinstance(node, ast.Name)}
            unused = [alias.name for node in imports(tree) for alias in node.names if alias.name not in used]
            self.assertEqual(unused, [], path)

    def test_no_file_imports_from_itself_through_others(self):
        reached = {name: {node.module for node in imports(tree)} for name, tree in TREES.items()}
        for _ in FILES:
            reached = {name: to.union(*[reached[other] for other in to]) for name, to in reached.items()}
        for name, to in reached.items():
            self.assertNotIn(name, to)

    def test_builtins(self):
        known = set(dir(builtins))
        for name, tree in TREES.items():
            for node in ast.walk(tree):
                if isinstance(node, ast.Name) and node.id in known:
                    self.assertIn(node.id, BUILTINS, (name, node.lineno))
                    self.assertIsInstance(node.ctx, ast.Load, (name, node.lineno))
                if isinstance(node, ast.arg):
                    self.assertNotIn(node.arg, known, (name, node.lineno))

    def test_methods(self):
        allowed = METHODS | own_methods()
        for name, tree in TREES.items():
            for node in ast.walk(tree):
                if isinstance(node, ast.Call) and isinstance(node.func, ast.Attribute):
                    self.assertIn(node.func.attr, allowed, (name, node.lineno))

    def test_no_variable_has_the_name_of_an_import(self):
        for name, tree in TREES.items():
            taken = {alias.name for node in imports(tree) for alias in node.names}
            taken |= {node.name for node in tree.body if isinstance(node, ast.ClassDef)}
            for node in ast.walk(tree):
                if isinstance(node, ast.arg):
                    self.assertNotIn(node.arg, taken, (name, node.lineno))
                if isinstance(node, ast.Name) and isinstance(node.ctx, ast.Store):
                    self.assertNotIn(node.id, taken, (name, node.lineno))

    def test_ranges_and_the_like_are_iterated_at_once(self):
        for name, tree in TREES.items():
            inside = parents(tree)
            for node in ast.walk(tree):
                if isinstance(node, ast.Call) and getattr(node.func, "id", "") in ITERATED_AT_ONCE:
                    where = inside[node]
                    if isinstance(where, ast.Call):
                        self.assertIn(getattr(where.func, "id", ""), ITERATING, (name, node.lineno))
                    else:
                        self.assertIsInstance(where, (ast.For, ast.comprehension), (name, node.lineno))

    def test_generators_are_no_values(self):
        made = {node.name for tree in TREES.values() for node in ast.walk(tree) if isinstance(node, ast.FunctionDef)
                if any(isinstance(part, (ast.Yield, ast.YieldFrom)) for part in ast.walk(node))}
        self.assertLessEqual({"kinds", "lots", "maps", "ranked", "rounds", "sorts"}, made)
        for name, tree in TREES.items():
            inside = parents(tree)
            for node in ast.walk(tree):
                if isinstance(node, ast.Name) and node.id in made:
                    where = node
                    while not isinstance(where, ast.FunctionDef):
                        where = inside[where]
                    call = inside[node]
                    called = isinstance(call, ast.Call) and call.func is node
                    # A parameter may have the name of a generator, if it is not called.
                    self.assertEqual(node.id in [one.arg for one in where.args.args], not called, (name, node.lineno))
                    if called:
                        self.assertIsInstance(inside[call], (ast.For, ast.comprehension), (name, node.lineno))
            self.assertEqual([node.lineno for node in ast.walk(tree) if isinstance(node, ast.GeneratorExp)], [], name)

    def test_attributes_are_no_methods_and_no_properties(self):
        classes = [node for tree in TREES.values() for node in ast.walk(tree) if isinstance(node, ast.ClassDef)]
        properties = {part.name for node in classes for part in node.body
                      if isinstance(part, ast.FunctionDef) and part.decorator_list}
        for node in classes:
            methods = {part.name for part in node.body if isinstance(part, ast.FunctionDef)}
            stored = {part.attr for part in ast.walk(node)
                      if isinstance(part, ast.Attribute) and isinstance(part.ctx, ast.Store)}
            self.assertEqual(stored & (methods | properties), set(), node.name)

    def test_operators_change_no_attribute(self):
        for name, tree in TREES.items():
            for node in ast.walk(tree):
                if isinstance(node, ast.FunctionDef) and node.name in OPERATORS:
                    stored = [part for part in ast.walk(node) if isinstance(getattr(part, "ctx", None), ast.Store)]
                    self.assertEqual([part.lineno for part in stored if not isinstance(part, (ast.Name, ast.Tuple))],
                        [], name)


if __name__ == "__main__":
    unittest.main()
