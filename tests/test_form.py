"""The form of the code: what can be seen of rules L1 to L28 in the syntax trees of the package.

The package uses less of Python than the rules allow. So these tests are narrower than the rules: a kind of expression
that is not listed here is looked up in the rules first, and then added.
"""

import ast
import builtins
import os
import re
import unittest

FOLDER = os.path.join(os.path.dirname(os.path.dirname(os.path.abspath(__file__))), "fineststep")
PACKAGE = "fineststep"

NODES = set("""Module Expr Constant ImportFrom alias FunctionDef ClassDef arguments arg Return Assign AugAssign For While If
    Raise Try ExceptHandler Pass Break Continue Yield Call Name Load Store Attribute Subscript Slice List Tuple Dict Set
    ListComp DictComp SetComp GeneratorExp comprehension BinOp Add Sub Mult FloorDiv Mod UnaryOp USub Not BoolOp And Or
    Compare Eq NotEq Lt LtE Gt GtE Is IsNot In NotIn IfExp JoinedStr FormattedValue keyword Starred""".split())
LIBRARY = {"math": {"gcd", "lcm"}, "itertools": {"combinations"}}
BUILTINS = set("""len range enumerate zip min max sum abs sorted reversed int str bool list tuple dict set isinstance ord repr
    any all divmod ValueError""".split())
LAZY = {"range", "zip", "enumerate", "reversed"}
EAGER = {"list", "tuple", "dict", "sorted", "sum", "any", "all", "enumerate", "zip", "min", "max"}
METHODS = set("""append clear copy count endswith extend find get index insert isalnum isalpha isdigit islower isspace isupper
    items join keys ljust lower lstrip partition pop remove replace reverse rfind rjust rpartition rsplit rstrip setdefault
    split splitlines startswith strip update upper values zfill bit_length""".split())
NEVER = set("""register mro elements open input law version_info with_traceback add_note attrgetter breakpoint builtins
    compile copyright credits delattr dir eval exec exit gc getattr globals hasattr help id importlib license locals
    methodcaller os quit setattr super type vars sys""".split())
NOT_WRITTEN = set("""type typing typing_extensions enum Enum IntEnum StrEnum Flag IntFlag Generic Protocol ABC ABCMeta namedtuple
    NamedTuple TypedDict TYPE_CHECKING abstractmethod dataclass overload contextmanager _wall _WallAttr""".split())
NOT_ATTRIBUTES = set("""items keys values pop update append clear extend insert remove reverse setdefault sort args encode decode
    hex fromhex format format_map mro""".split())
STARRED = {("meet", "others"), ("act", "deeds")}
DECORATORS = {"classmethod", "property"}
DEFAULTS = (None, (), 0, "first", ("drop", "push", "blank", "shut"))
KEYWORDS = {"sorted": {"key", "reverse"}, "min": {"key", "default"}, "max": {"key", "default"}, "sum": {"start"},
            "enumerate": {"start"}, "zip": {"strict"}}


def parents_of(tree):
    """Returns the node above each node."""
    return {child: node for node in ast.walk(tree) for child in ast.iter_child_nodes(node)}


def is_docstring(node):
    """Returns True for a statement that is a string."""
    return isinstance(node, ast.Expr) and isinstance(node.value, ast.Constant) and isinstance(node.value.value, str)


def functions_of(tree):
    """Returns all functions and methods."""
    return [node for node in ast.walk(tree) if isinstance(node, ast.FunctionDef)]


def called_name(node):
    """Returns the name that a call calls, None for other nodes."""
    return node.func.id if isinstance(node, ast.Call) and isinstance(node.func, ast.Name) else None


def is_property(node):
    """Returns True for a method that is a property."""
    return "property" in [decorator.id for decorator in node.decorator_list]


class Form(unittest.TestCase):
    @classmethod
    def setUpClass(cls):
        cls.entries = sorted(os.listdir(FOLDER))
        cls.texts = {}
        for name in cls.entries:
            if name.endswith(".py"):
                with open(os.path.join(FOLDER, name), encoding="utf-8", newline="") as file:
                    cls.texts[name[:-3]] = file.read()
        cls.trees = {name: ast.parse(text) for name, text in cls.texts.items()}
        cls.parents = {name: parents_of(tree) for name, tree in cls.trees.items()}
        cls.functions = [node for tree in cls.trees.values() for node in functions_of(tree)]
        cls.classes = {node.name: node for tree in cls.trees.values() for node in tree.body if isinstance(node, ast.ClassDef)}
        cls.generators = {node.name for node in cls.functions if any(isinstance(x, ast.Yield) for x in ast.walk(node))}

    def nodes(self, *kinds):
        """Yields the nodes of these kinds with the file and the node above."""
        for name, tree in self.trees.items():
            for node in ast.walk(tree):
                if isinstance(node, kinds):
                    yield f"{name}:{getattr(node, 'lineno', 0)}", node, self.parents[name].get(node)

    def test_files(self):
        for entry in self.entries:
            if entry != "__pycache__":
                self.assertRegex(entry, r"^([a-z][a-z0-9_]*|__init__)\.py$")
                self.assertNotIn(entry[:-3], set(dir(builtins)) | NEVER | {"test", "tests", "site", "conftest"})
        self.assertLessEqual(len(self.texts), 100)
        self.assertIn("__init__", self.texts)
        self.assertEqual([is_docstring(node) for node in self.trees["__init__"].body], [True])

    def test_characters_and_lengths(self):
        for name, text in self.texts.items():
            self.assertTrue(all(sign == "\n" or " " <= sign <= "~" for sign in text), name)
            lines = text.split("\n")
            self.assertLessEqual(len(lines), 400, name)
            self.assertLessEqual(max(len(line) for line in lines), 120, name)
            for node in functions_of(self.trees[name]):
                first = min([node.lineno] + [decorator.lineno for decorator in node.decorator_list])
                self.assertLessEqual(node.end_lineno - first + 1, 40, f"{name}: {node.name}")

    def test_kinds_of_nodes(self):
        for name, tree in self.trees.items():
            for node in ast.walk(tree):
                self.assertIn(node.__class__.__name__, NODES, f"{name}:{getattr(node, 'lineno', 0)}")

    def test_module_level(self):
        for name, tree in self.trees.items():
            self.assertTrue(is_docstring(tree.body[0]), name)
            bound = []
            for k, node in enumerate(tree.body[1:]):
                if isinstance(node, ast.ImportFrom):
                    self.assertTrue(k == 0 or isinstance(tree.body[k], ast.ImportFrom), f"{name}: imports stand at the top")
                    bound += [alias.name for alias in node.names]
                elif isinstance(node, (ast.FunctionDef, ast.ClassDef)):
                    bound.append(node.name)
                else:
                    self.assertIsInstance(node, ast.Assign, name)
                    self.assertEqual([target.__class__ for target in node.targets], [ast.Name], name)
                    ast.literal_eval(node.value)
                    bound.append(node.targets[0].id)
            self.assertEqual(len(bound), len(set(bound)), name)

    def test_imports(self):
        edges = {}
        for name, tree in self.trees.items():
            edges[name] = []
            for node in ast.walk(tree):
                if not isinstance(node, ast.ImportFrom):
                    continue
                self.assertEqual(node.level, 0)
                self.assertTrue(all(alias.asname is None for alias in node.names))
                imported = [alias.name for alias in node.names]
                if node.module in LIBRARY:
                    self.assertLessEqual(set(imported), LIBRARY[node.module])
                    continue
                package, _, module = node.module.partition(".")
                self.assertEqual(package, PACKAGE)
                edges[name].append(module)
                self.assertLessEqual(set(imported), self.defined(module), f"{name} from {module}")
                used = {x.id for x in ast.walk(tree) if isinstance(x, ast.Name)}
                self.assertLessEqual(set(imported), used, f"{name} does not use an import")
        done = []
        while len(done) < len(edges):
            ready = [name for name, others in edges.items() if name not in done and set(others) <= set(done)]
            self.assertTrue(ready, "files import from each other")
            done += ready

    def defined(self, module):
        """Returns the names that the file itself defines."""
        found = set()
        for node in self.trees[module].body:
            if isinstance(node, (ast.FunctionDef, ast.ClassDef)):
                found.add(node.name)
            elif isinstance(node, ast.Assign):
                found.add(node.targets[0].id)
        return found

    def test_names(self):
        for name, tree in self.trees.items():
            outer = {node.name for node in tree.body if isinstance(node, ast.ClassDef)}
            outer |= {alias.name for node in tree.body if isinstance(node, ast.ImportFrom) for alias in node.names}
            functions = [node.name for node in functions_of(tree)]
            inner = [node.arg for node in ast.walk(tree) if isinstance(node, ast.arg)]
            inner += [node.id for node in ast.walk(tree) if isinstance(node, ast.Name) and isinstance(node.ctx, ast.Store)]
            inner += [node.name for node in ast.walk(tree) if isinstance(node, ast.ExceptHandler) and node.name]
            for word in functions + inner + sorted(outer):
                if word != "__init__":
                    self.assertRegex(word, r"^(_?[A-Za-z][A-Za-z0-9_]*|_)$", name)
                    self.assertNotIn(word, set(dir(builtins)) | NEVER, name)
            for word in inner:
                self.assertNotIn(word, outer, name)
                self.assertNotIn(word, self.generators, name)
            reads = [node.id for node in ast.walk(tree) if isinstance(node, ast.Name) and isinstance(node.ctx, ast.Load)]
            self.assertNotIn("_", reads, name)
            for word in reads:
                self.assertTrue(word in BUILTINS or word in outer or word in inner or word in self.defined(name)
                                or word in DECORATORS, f"{name}: {word}")

    def test_words_that_are_not_written(self):
        for name, text in self.texts.items():
            words = set(re.findall(r"[A-Za-z0-9_]+", text))
            self.assertEqual(words & NOT_WRITTEN, set(), name)

    def test_function_names_are_no_generators_twice(self):
        found = [node.name for node in self.functions]
        for word in self.generators:
            self.assertEqual(found.count(word), 1, word)
            self.assertNotIn(word, METHODS)

    def test_arguments(self):
        for place, node, _ in self.nodes(ast.FunctionDef):
            if node.args.vararg is not None:
                self.assertIn((node.name, node.args.vararg.arg), STARRED, place)
            self.assertIsNone(node.args.kwarg, place)
            self.assertEqual((node.args.posonlyargs, node.returns), ([], None), place)
            for default in node.args.defaults + node.args.kw_defaults:
                if default is not None:
                    self.assertIn(ast.literal_eval(default), DEFAULTS, place)

    def test_classes(self):
        errors = {"ValueError", "BookError"}
        for place, node, parent in self.nodes(ast.ClassDef):
            self.assertIsInstance(parent, ast.Module, place)
            self.assertEqual((node.decorator_list, node.keywords), ([], []), place)
            self.assertLessEqual({base.id for base in node.bases}, errors, place)
            attributes = {x.attr for x in ast.walk(node) if isinstance(x, ast.Attribute) and isinstance(x.ctx, ast.Store)}
            methods = [child.name for child in node.body if isinstance(child, ast.FunctionDef)]
            self.assertEqual(len(methods), len(set(methods)), place)
            self.assertEqual(attributes & set(methods), set(), place)
            self.assertEqual([word for word in methods if word.startswith("__")], ["__init__"] if "__init__" in methods else [])
            for child in node.body:
                self.assertTrue(is_docstring(child) or isinstance(child, ast.FunctionDef), place)

    def test_decorators(self):
        for place, node, parent in self.nodes(ast.FunctionDef):
            for decorator in node.decorator_list:
                self.assertIn(decorator.id, DECORATORS, place)
                self.assertIsInstance(parent, ast.ClassDef, place)
            self.assertIsInstance(parent, (ast.ClassDef, ast.Module), place)
            self.assertTrue(is_docstring(node.body[0]) or node.name == "__init__", place)

    def test_attributes(self):
        stored = {node.attr for _, node, _ in self.nodes(ast.Attribute) if isinstance(node.ctx, ast.Store)}
        methods = {child.name for node in self.classes.values() for child in node.body if isinstance(child, ast.FunctionDef)}
        properties = {node.name for node in self.functions if is_property(node)}
        self.assertEqual(stored & (NOT_ATTRIBUTES | properties), set())
        for value in ("", 0, [], (), {}, b""):
            self.assertEqual((stored | methods) & set(dir(value)) - {"__init__", "index", "count", "title"}, set())
        for place, node, parent in self.nodes(ast.Attribute):
            if isinstance(parent, ast.Call) and parent.func is node:
                self.assertIn(node.attr, METHODS | methods - properties, place)
            else:
                self.assertIn(node.attr, stored | properties, place)
            if isinstance(node.ctx, ast.Store):
                self.assertIsInstance(node.value, ast.Name, place)

    def test_properties_only_look_up(self):
        for node in self.functions:
            if is_property(node):
                self.assertEqual([x.arg for x in node.args.args], ["self"], node.name)
                self.assertEqual([is_docstring(child) or isinstance(child, ast.Return) for child in node.body], [True, True])
                self.assertFalse([x for x in ast.walk(node) if isinstance(x, ast.Call)], node.name)

    def test_stars_of_calls(self):
        for place, node, parent in self.nodes(ast.Starred):
            self.assertIsInstance(parent, ast.Call, place)
            self.assertIsInstance(parent.func, ast.Attribute, place)
            self.assertIsInstance(node.value, ast.Name, place)

    def test_strings_and_numbers(self):
        for place, node, parent in self.nodes(ast.Constant):
            self.assertIn(node.value.__class__, (str, int, bool, type(None)), place)
            if isinstance(node.value, str) and not isinstance(parent, ast.Expr):
                self.assertNotIn("%", node.value, place)
                self.assertNotIn("__", node.value, place)

    def test_comparisons_by_is(self):
        for place, node, _ in self.nodes(ast.Compare):
            for sign, other in zip(node.ops, node.comparators):
                if isinstance(sign, (ast.Is, ast.IsNot)):
                    self.assertIsInstance(other, ast.Constant, place)

    def test_what_is_iterated_at_once(self):
        for place, node, parent in self.nodes(ast.Call):
            if called_name(node) in LAZY or called_name(node) in self.generators or called_name(node) == "combinations":
                iterated = isinstance(parent, (ast.For, ast.comprehension)) and parent.iter is node
                self.assertTrue(iterated or called_name(parent) in EAGER and parent.args[0] is node
                                or called_name(parent) in ("zip",), place)
            if called_name(node) in self.generators:
                self.assertTrue(all(isinstance(arg, (ast.Name, ast.Attribute, ast.Constant)) for arg in node.args), place)

    def test_generator_functions(self):
        for place, node, parent in self.nodes(ast.Yield):
            self.assertIsInstance(parent, ast.Expr, place)
            self.assertIsNotNone(node.value, place)
        for node in self.functions:
            if node.name in self.generators:
                self.assertFalse([x for x in ast.walk(node) if called_name(x) in ("combinations", "gcd", "lcm")])
                self.assertFalse([x for x in ast.walk(node) if isinstance(x, (ast.Try, ast.Return))])

    def test_sets(self):
        for place, node, parent in self.nodes(ast.Set, ast.SetComp, ast.Call):
            if isinstance(node, ast.Call) and called_name(node) != "set":
                continue
            at_once = called_name(parent) in ("sorted", "len") and not parent.keywords
            tested = isinstance(parent, ast.Compare) and isinstance(parent.ops[-1], (ast.In, ast.NotIn))
            self.assertTrue(at_once or tested, place)

    def test_generator_expressions_are_not_used(self):
        self.assertEqual([place for place, _, _ in self.nodes(ast.GeneratorExp)], [])

    def test_keywords_of_calls(self):
        own = {node.name for node in self.functions} | set(self.classes)
        for place, node, _ in self.nodes(ast.Call):
            words = {keyword.arg for keyword in node.keywords}
            if called_name(node) in own:
                self.assertNotIn(None, words, place)
            else:
                self.assertLessEqual(words, KEYWORDS.get(called_name(node), set()), place)

    def test_calls_pass_as_many_arguments_as_there_are(self):
        takes = {node.name: node.args for tree in self.trees.values() for node in tree.body
                 if isinstance(node, ast.FunctionDef)}
        for place, node, _ in self.nodes(ast.Call):
            if called_name(node) in takes and not node.keywords:
                args = takes[called_name(node)]
                most = len(args.args)
                self.assertTrue(most - len(args.defaults) <= len(node.args) <= most, place)

    def test_errors(self):
        errors = {name for name, node in self.classes.items() if node.bases}
        for place, node, _ in self.nodes(ast.Raise):
            self.assertIn(called_name(node.exc), errors, place)
            self.assertIsNone(node.cause, place)
            has_init = any(isinstance(child, ast.FunctionDef) for child in self.classes[called_name(node.exc)].body)
            if not has_init:
                self.assertEqual([arg.value.__class__ for arg in node.exc.args], [str], place)
        for place, node, _ in self.nodes(ast.ExceptHandler):
            # A session answers every error of the program with a line.
            self.assertIn(node.type.id, errors if place.startswith("runs:") else errors - {"BookError"}, place)
        for place, node, _ in self.nodes(ast.Try):
            self.assertEqual(node.finalbody, [], place)

    def test_module_level_lists_are_not_changed_or_passed_on(self):
        for name, tree in self.trees.items():
            for node in tree.body:
                if isinstance(node, ast.Assign):
                    self.assertNotIsInstance(node.value, (ast.List, ast.Dict, ast.Set), name)

    def test_loops_do_not_change_what_they_go_over(self):
        for place, node, _ in self.nodes(ast.For):
            gone_over = {x.id for x in ast.walk(node.iter) if isinstance(x, ast.Name)}
            for child in ast.walk(node):
                if isinstance(child, ast.Call) and isinstance(child.func, ast.Attribute):
                    if child.func.attr in ("append", "extend", "pop", "insert", "remove", "clear", "update"):
                        self.assertFalse(isinstance(child.func.value, ast.Name) and child.func.value.id in gone_over, place)
                if isinstance(child, ast.Subscript) and isinstance(child.ctx, ast.Store):
                    self.assertFalse(isinstance(child.value, ast.Name) and child.value.id in gone_over, place)


if __name__ == "__main__":
    unittest.main()
