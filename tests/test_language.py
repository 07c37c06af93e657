"""The form of the package's files: the rules of the language that can be read off the code."""

import ast
import builtins
import io
import pathlib
import tokenize
import unittest

FOLDER = pathlib.Path(__file__).resolve().parent.parent / "slowshelves"
LIBRARY = {
    "heapq": {"heappush", "heappop", "heapify", "heapreplace", "heappushpop"},
    "math": {"gcd", "lcm", "isqrt", "comb", "perm", "factorial"},
    "itertools": {"product", "combinations", "permutations"},
}
# Doctest runs leave a "_" among the builtins.
NAMES_OF_BUILTINS = set(dir(builtins)) - {"_"}
BUILTINS = set("""len range enumerate zip min max sum abs sorted reversed int str bool list tuple dict set isinstance ord
repr any all divmod Exception KeyError ZeroDivisionError""".split())
METHODS = set("""append clear copy count endswith extend find get index insert isalnum isalpha isdigit islower isspace
isupper items join keys ljust lower lstrip partition pop remove replace reverse rfind rjust rpartition rsplit rstrip
setdefault split splitlines startswith strip update upper values zfill bit_length""".split())
BARRED_NAMES = set("""register mro elements open input law version_info with_traceback add_note attrgetter breakpoint
builtins compile copyright credits delattr dir eval exec exit gc getattr globals hasattr help id importlib license locals
methodcaller os quit setattr super type vars sys iter next map""".split())
BARRED_WORDS = set("""type typing typing_extensions enum Enum IntEnum StrEnum Flag IntFlag Generic Protocol ABC ABCMeta
namedtuple NamedTuple TypedDict TYPE_CHECKING abstractmethod dataclass overload contextmanager _wall""".split())
NODES = (
    ast.Module, ast.Expr, ast.ImportFrom, ast.alias, ast.FunctionDef, ast.ClassDef, ast.arguments, ast.arg, ast.Return,
    ast.Assign, ast.AugAssign, ast.Delete, ast.For, ast.While, ast.If, ast.Raise, ast.Pass, ast.Continue, ast.Break,
    ast.Try, ast.ExceptHandler, ast.BoolOp, ast.BinOp, ast.UnaryOp, ast.IfExp, ast.Dict, ast.Set, ast.ListComp, ast.DictComp,
    ast.Compare, ast.Call, ast.keyword, ast.Constant, ast.Attribute, ast.Subscript, ast.Starred, ast.Name, ast.List,
    ast.Tuple, ast.Slice, ast.comprehension, ast.expr_context, ast.boolop, ast.operator, ast.unaryop, ast.cmpop,
    ast.JoinedStr, ast.FormattedValue, ast.Lambda,
)
EAGER = {"list", "tuple", "dict", "sorted", "sum", "any", "all", "enumerate", "zip", "min", "max"}


def tree_with_parents(text):
    tree = ast.parse(text)
    for node in ast.walk(tree):
        for child in ast.iter_child_nodes(node):
            child.parent = node
    return tree


def parsed():
    for path in sorted(FOLDER.glob("*.py")):
        text = path.read_text(encoding="utf-8")
        yield path.stem, text, tree_with_parents(text)


FILES = list(parsed())


def nodes_of(kind):
    for name, _, tree in FILES:
        for node in ast.walk(tree):
            if isinstance(node, kind):
                yield f"{name}.py:{getattr(node, 'lineno', 0)}", node


def called(node):
    return node.func.id if isinstance(node, ast.Call) and isinstance(node.func, ast.Name) else None


def is_set(node):
    return called(node) == "set" or isinstance(node, (ast.Set, ast.SetComp))


def set_joins(node):
    return isinstance(node, ast.BinOp) and isinstance(node.op, (ast.Sub, ast.BitAnd, ast.BitOr, ast.BitXor))


def is_all_sets(node):
    """Whether this is a set that is written there, or several of them joined by signs."""
    return is_all_sets(node.left) and is_all_sets(node.right) if set_joins(node) else is_set(node)


def may_be_compared(node):
    """Whether a set stands behind each "in" of a comparison, and beside another set at each other sign."""
    sides = [node.parent.left] + node.parent.comparators
    for before, sign, behind in zip(sides, node.parent.ops, sides[1:]):
        if node in (before, behind):
            alike = isinstance(sign, (ast.Eq, ast.NotEq)) and is_all_sets(before) and is_all_sets(behind)
            if not alike and not (isinstance(sign, (ast.In, ast.NotIn)) and behind is node):
                return False
    return True


def may_be_passed(node):
    """Whether a set is all that sorted or len gets; a literal by itself may have a told reverse beside it."""
    call = node.parent
    if called(call) not in ("sorted", "len") or call.args != [node]:
        return False
    told = called(call) == "sorted" and isinstance(node, ast.Set)
    return all(told and word.arg == "reverse" and isinstance(word.value, ast.Constant)
               and isinstance(word.value.value, bool) for word in call.keywords)


def set_may_stand(node):
    """L24 for a set that is written there and not kept."""
    while set_joins(node.parent):
        node = node.parent
    if not is_all_sets(node):
        return False
    return may_be_compared(node) if isinstance(node.parent, ast.Compare) else may_be_passed(node)


def wrong_sets(tree):
    return [node for node in ast.walk(tree) if is_set(node) and not set_may_stand(node)]


def bound_names(tree):
    for node in ast.walk(tree):
        if isinstance(node, ast.Name) and not isinstance(node.ctx, ast.Load):
            yield node.id
        elif isinstance(node, ast.arg):
            yield node.arg
        elif isinstance(node, ast.FunctionDef) and not node.name.endswith("__"):
            yield node.name


class TestLanguage(unittest.TestCase):
    def test_files(self):
        found = [path.name for path in FOLDER.iterdir() if path.name != "__pycache__"]
        self.assertIn("__init__.py", found)
        for name in found:
            self.assertRegex(name, r"^[a-z0-9_]+\.py$")
        self.assertLessEqual(len(found), 100)

    def test_lines(self):
        for name, text, _ in FILES:
            self.assertTrue(all(sign == "\n" or " " <= sign <= "~" for sign in text), name)
            self.assertLessEqual(len(text.splitlines()), 399, name)
            self.assertLessEqual(max(len(line) for line in text.splitlines()), 120, name)

    def test_functions_are_short(self):
        for place, node in nodes_of(ast.FunctionDef):
            self.assertLessEqual(node.end_lineno - node.lineno + 1, 40, place)
            self.assertEqual([], node.decorator_list, place)
            self.assertIsInstance(node.parent, (ast.Module, ast.ClassDef), place)

    def test_only_these_parts_of_the_language(self):
        for place, node in nodes_of(ast.AST):
            self.assertIsInstance(node, NODES, place)
            self.assertNotIsInstance(node, (ast.Div, ast.MatMult, ast.Pow), place)

    def test_imports(self):
        defined = {name: {node.name for node in tree.body if isinstance(node, (ast.FunctionDef, ast.ClassDef))}
                   | {node.targets[0].id for node in tree.body if isinstance(node, ast.Assign)} for name, _, tree in FILES}
        imports = {}
        for name, _, tree in FILES:
            imports[name] = set()
            for node in ast.walk(tree):
                if isinstance(node, ast.ImportFrom):
                    self.assertEqual((0, tree), (node.level, node.parent))
                    names = {alias.name for alias in node.names}
                    self.assertEqual({None}, {alias.asname for alias in node.names})
                    if node.module in LIBRARY:
                        self.assertLessEqual(names, LIBRARY[node.module])
                        continue
                    self.assertRegex(node.module, r"^slowshelves\.[a-z_]+$")
                    module = node.module.partition(".")[2]
                    self.assertLessEqual(names, defined[module], name)
                    imports[name].add(module)
                    used = {node.id for node in ast.walk(tree) if isinstance(node, ast.Name)}
                    self.assertLessEqual(names, used, name)
        while imports:
            free = [name for name, wanted in imports.items() if not wanted & set(imports)]
            self.assertTrue(free, imports)
            imports = {name: wanted for name, wanted in imports.items() if name not in free}

    def test_module_level(self):
        for name, _, tree in FILES:
            for node in tree.body:
                self.assertIsInstance(node, (ast.Expr, ast.ImportFrom, ast.FunctionDef, ast.ClassDef, ast.Assign), name)
                if isinstance(node, ast.Expr):
                    self.assertIsInstance(node.value, ast.Constant)
            names = [node.name for node in tree.body if isinstance(node, (ast.FunctionDef, ast.ClassDef))]
            self.assertEqual(len(set(names)), len(names))

    def test_names(self):
        for name, _, tree in FILES:
            top = {alias.name for node in tree.body if isinstance(node, ast.ImportFrom) for alias in node.names}
            top |= {node.name for node in tree.body if isinstance(node, ast.ClassDef)}
            functions = {node.name for node in tree.body if isinstance(node, ast.FunctionDef)}
            for found in bound_names(tree):
                self.assertRegex(found, r"^_?([a-zA-Z][a-zA-Z0-9_]*)?$", name)
                self.assertFalse(found in NAMES_OF_BUILTINS or found in BARRED_NAMES or found in top, (name, found))
            for place, node in nodes_of((ast.Name, ast.arg)):
                if place.startswith(name + ".py") and not isinstance(getattr(node, "ctx", None), ast.Load):
                    self.assertNotIn(getattr(node, "id", getattr(node, "arg", "")), functions, place)

    def test_builtins_and_methods(self):
        for place, node in nodes_of(ast.Name):
            if isinstance(node.ctx, ast.Load) and node.id in NAMES_OF_BUILTINS:
                self.assertIn(node.id, BUILTINS, place)
        own = {node.name for _, node in nodes_of(ast.FunctionDef) if isinstance(node.parent, ast.ClassDef)} - {"__init__"}
        assigned = {node.attr for _, node in nodes_of(ast.Attribute) if isinstance(node.ctx, ast.Store)}
        self.assertEqual(set(), own & (assigned | METHODS))
        classes = {node.name for _, node in nodes_of(ast.ClassDef)}
        for place, node in nodes_of(ast.Attribute):
            if node.attr == "__init__":
                # The one of a base class, called with the own object in front.
                self.assertTrue(node.value.id in classes and node.parent.func is node, place)
                self.assertEqual("self", node.parent.args[0].id, place)
            elif isinstance(node.parent, ast.Call) and node.parent.func is node:
                self.assertIn(node.attr, METHODS - {"sort"} | own, place)
            else:
                self.assertIn(node.attr, assigned, place)

    def test_attributes_are_set_by_init(self):
        """Each attribute is set on each object when it is created, and by its own class alone."""
        for place, node in nodes_of(ast.ClassDef):
            made = {part.attr for method in node.body if isinstance(method, ast.FunctionDef) and method.name == "__init__"
                    for part in ast.walk(method) if isinstance(part, ast.Attribute) and isinstance(part.ctx, ast.Store)}
            later = {part.attr for part in ast.walk(node) if isinstance(part, ast.Attribute) and isinstance(part.ctx, ast.Store)}
            self.assertEqual(made, later, place)

    def test_listed_methods_stand_in_their_classes(self):
        listed = {"Walker": {"next_block", "mate_run", "touched"}, "Hider": {"seen", "touched", "mate", "behind"},
                  "House": {"__eq__"}, "Live": {"go", "do", "lift", "undo", "redo", "sheet"}, "Desk": {"say"}}
        own = {node.name: {method.name for method in node.body if isinstance(method, ast.FunctionDef)}
               for _, node in nodes_of(ast.ClassDef)}
        for name, methods in listed.items():
            self.assertLessEqual(methods, own[name])

    def test_equality_is_one_return(self):
        for place, node in nodes_of(ast.FunctionDef):
            if node.name in ("__eq__", "__len__", "__repr__", "__str__"):
                self.assertEqual([ast.Return], [type(row) for row in node.body], place)

    def test_caught_errors_are_own_ones(self):
        own = {node.name for _, node in nodes_of(ast.ClassDef)}
        for place, node in nodes_of(ast.ExceptHandler):
            names = node.type.elts if isinstance(node.type, ast.Tuple) else [node.type]
            self.assertLessEqual({name.id for name in names}, own, place)

    def test_what_is_raised_is_made_on_the_spot(self):
        own = {node.name for _, node in nodes_of(ast.ClassDef)}
        for place, node in nodes_of(ast.Raise):
            self.assertIn(called(node.exc), own, place)
            self.assertIn(type(node.cause), (type(None), ast.Constant), place)

    def test_words(self):
        for name, text, tree in FILES:
            docs = {ast.get_docstring(node, clean=False) for node in ast.walk(tree)
                    if isinstance(node, (ast.Module, ast.ClassDef, ast.FunctionDef))}
            for token in tokenize.generate_tokens(io.StringIO(text).readline):
                if token.type == tokenize.NAME:
                    self.assertNotIn(token.string, BARRED_WORDS, name)
                if token.type == tokenize.STRING and token.string[0] != "f" and ast.literal_eval(token.string) not in docs:
                    self.assertFalse(BARRED_WORDS & set(token.string.strip("\"'").split()), name)
            for node in ast.walk(tree):
                if isinstance(node, ast.Constant) and isinstance(node.value, str):
                    self.assertNotIn(chr(37), node.value, name)
                    self.assertNotRegex(node.value, r"^__.*__$", name)
                self.assertNotIsInstance(getattr(node, "value", None), float)

    def test_is(self):
        for place, node in nodes_of(ast.Compare):
            for sign, right in zip(node.ops, node.comparators):
                if isinstance(sign, (ast.Is, ast.IsNot)):
                    self.assertIsInstance(right, ast.Constant, place)
                    self.assertIn(repr(right.value), ("None", "True", "False"), place)

    def test_sets_stand_where_they_may(self):
        for name, _, tree in FILES:
            self.assertEqual([], [node.lineno for node in wrong_sets(tree)], name)
        # The package keeps no sets and does without literals of them.
        self.assertEqual([], list(nodes_of(ast.Set)))

    def test_right_places_of_sets_are_let(self):
        for text in (
            "sorted(set(xs))", "sorted(set(xs))[::-1]", "len(set(xs))", "len(set())", "sorted({x for x in xs})",
            "sorted({'a', k})", "sorted({'a', k}, reverse=True)", "sorted({'a', k}, reverse=False)",
            "sorted(set(xs) - {k})", "len(set(xs) & set(ys) | {x for x in zs})", "k in set(xs)", "k not in {1, k}",
            "k in set(xs) ^ set(ys)", "set(xs) == set(ys)", "{x for x in xs} != set(ys) - {k}",
            "sorted(xs, key=len, reverse=True)", "sorted(sorted(set(xs)), reverse=True)", "sorted([len(set(xs))], reverse=k)",
        ):
            with self.subTest(text):
                self.assertEqual([], wrong_sets(tree_with_parents(text)))

    def test_wrong_places_of_sets_are_told(self):
        sets = ("set(xs)", "set()", "set([x for row in xs for x in row])", "{x for x in xs}", "set(xs) - {k}", "{k} | set(xs)",
                "{1, k} ^ {2, k}", "(set(xs) & {x for x in ys}) - {k}")
        words = ("reverse=True", "reverse=False", "reverse=k", "key=len", "key=lambda x: -x", "key=len, reverse=True", "**k")
        wrong = [f"sorted({text}, {word})" for text in sets for word in words]
        wrong += [f"sorted({{'a', k}}, {word})" for word in words[2:] + ("reverse=1", "reverse=None")]
        wrong += [form.format(text) for text in sets + ("{'a', k}",) for form in (
            "list({})", "sum({})", "sorted(list({}), reverse=True)", "sorted({} or xs, reverse=True)", "sorted([*{}])",
            "sorted({} if k else xs)", "[x for x in {}]", "seen = {}", "told({})", "sorted(*{})", "max(xs, key={})",
            "sorted(({}) - seen)", "len(seen | ({}))", "({}) == seen", "seen != ({})", "({}) < set(ys)", "({}) in seen",
            "seen == k in ({}) == xs", "set({})", "for x in {}:\n    pass", "sorted(xs, key={})", "len(xs, {})",
        )]
        for text in wrong:
            with self.subTest(text):
                self.assertNotEqual([], wrong_sets(tree_with_parents(text)))

    def test_ranges_are_iterated_at_once(self):
        for place, node in nodes_of(ast.Call):
            if called(node) in ("range", "zip", "enumerate", "reversed", "combinations", "product", "permutations") or (
                isinstance(node.func, ast.Attribute) and node.func.attr in ("items", "keys", "values")
            ):
                parent = node.parent
                at_once = isinstance(parent, (ast.For, ast.comprehension)) and parent.iter is node
                in_reversed = called(node) == "range" and called(parent) == "reversed"
                in_product = called(node) == "range" and called(parent) in LIBRARY["itertools"]
                self.assertTrue(at_once or in_reversed or in_product or called(parent) in EAGER, place)

    def test_what_is_iterated_is_not_changed(self):
        for place, node in nodes_of((ast.For, ast.ListComp, ast.DictComp)):
            heads = [node.iter] if isinstance(node, ast.For) else [part.iter for part in node.generators]
            names = {part.id for head in heads for part in ast.walk(head) if isinstance(part, ast.Name)}
            changed = set()
            body = node.body if isinstance(node, ast.For) else [node]
            for part in [inner for row in body for inner in ast.walk(row)]:
                if isinstance(part, ast.Call) and isinstance(part.func, ast.Attribute):
                    if part.func.attr in ("append", "extend", "update", "setdefault", "pop", "clear", "insert", "remove"):
                        changed |= {name.id for name in ast.walk(part.func.value) if isinstance(name, ast.Name)}
                if isinstance(part, ast.Subscript) and not isinstance(part.ctx, ast.Load):
                    changed |= {name.id for name in ast.walk(part.value) if isinstance(name, ast.Name)}
            self.assertEqual(set(), names & changed, place)

    def test_loop_variables_named_as_nothing_are_not_read(self):
        for place, node in nodes_of(ast.Name):
            self.assertFalse(node.id == "_" and isinstance(node.ctx, ast.Load), place)

    def test_stars_in_calls_stand_before_names(self):
        for place, node in nodes_of(ast.Call):
            for argument in node.args:
                if isinstance(argument, ast.Starred):
                    self.assertIsInstance(argument.value, (ast.Name, ast.Attribute), place)

    def test_keywords_of_builtins(self):
        allowed = {"sorted": {"key", "reverse"}, "min": {"key", "default"}, "max": {"key", "default"},
                   "sum": {"start"}, "enumerate": {"start"}}
        for place, node in nodes_of(ast.Call):
            if called(node) in BUILTINS:
                self.assertLessEqual({word.arg for word in node.keywords}, allowed.get(called(node), set()), place)


if __name__ == "__main__":
    unittest.main()
