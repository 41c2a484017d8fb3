"""Those rules of the language that a look at the source can tell.

This is no full check of the rules L1 to L28: it catches what is easily
overlooked while writing.
"""

import ast
import builtins
import pathlib
import re
import unittest

PACKAGE = pathlib.Path(__file__).resolve().parent.parent / "walkbox"

CALLED = set("""
    len range enumerate zip min max sum abs sorted reversed int str bool bytes list tuple dict set
    isinstance ord repr any all divmod iter next super property staticmethod classmethod
    Exception ValueError TypeError KeyError IndexError LookupError ZeroDivisionError ArithmeticError
    OverflowError RuntimeError NotImplementedError AttributeError NotImplemented
""".split())

BARRED_WORDS = set("""
    type typing typing_extensions enum Enum IntEnum StrEnum Flag IntFlag Generic Protocol ABC ABCMeta
    namedtuple NamedTuple TypedDict TYPE_CHECKING abstractmethod
""".split())

BARRED_NAMES = set("""
    register mro elements open input law version_info with_traceback add_note format format_map
""".split())

METHODS = set("""
    append clear copy count endswith extend find get index insert isalnum isalpha isdigit islower isspace isupper items join
    keys ljust lower lstrip partition pop remove replace reverse rfind rjust rpartition rsplit rstrip setdefault split
    splitlines startswith strip update upper values zfill bit_length
""".split())

UNUSED_NAMES = set("""
    attrgetter breakpoint builtins compile copyright credits delattr dir eval exec exit gc getattr globals hasattr help id
    importlib license locals methodcaller os quit setattr super type vars sys
""".split())

DOUBLE = set("__init__ __eq__ __repr__ __str__ __len__ __enter__ __exit__ __call__ __iter__".split())


def sources():
    """Each file of the package with its text."""
    return [(path, path.read_text()) for path in sorted(PACKAGE.glob("**/*.py"))]


def nodes(text, *sorts):
    """All nodes of these sorts."""
    return [node for node in ast.walk(ast.parse(text)) if isinstance(node, sorts)]


def bound_names(text):
    """All names that a file binds: functions, classes, arguments, variables, attributes."""
    names = [node.name for node in nodes(text, ast.FunctionDef, ast.ClassDef)]
    names += [node.arg for node in nodes(text, ast.arg)]
    names += [node.id for node in nodes(text, ast.Name) if isinstance(node.ctx, ast.Store)]
    names += [node.attr for node in nodes(text, ast.Attribute) if isinstance(node.ctx, ast.Store)]
    return names


def imported_names(text):
    """All names that a file imports."""
    return {alias.name for node in nodes(text, ast.ImportFrom) for alias in node.names}


def own_methods():
    """The names of all methods of the package."""
    return {part.name for _, text in sources() for node in nodes(text, ast.ClassDef)
            for part in node.body if isinstance(part, ast.FunctionDef)}


def is_simple(node):
    """Whether it is what a `finally` may assign or append: names, attributes, literals, tuples of these."""
    if isinstance(node, (ast.Tuple, ast.List)):
        return all(is_simple(part) for part in node.elts)
    return isinstance(node, (ast.Name, ast.Constant)) or (isinstance(node, ast.Attribute) and is_simple(node.value))


def module_names(text):
    """All names that a file binds at module level: imports, functions, classes and values."""
    tree = ast.parse(text)
    names = {alias.asname or alias.name for node in nodes(text, ast.ImportFrom) for alias in node.names}
    names |= {node.name for node in tree.body if isinstance(node, (ast.FunctionDef, ast.ClassDef))}
    return names | {part.id for node in tree.body if isinstance(node, ast.Assign)
                    for part in node.targets if isinstance(part, ast.Name)}


def is_through_local(node, outer):
    """Whether a target begins with a name, none of the outer ones, and goes on by attributes and items alone."""
    while isinstance(node, (ast.Attribute, ast.Subscript)):
        node = node.value
    return isinstance(node, ast.Name) and node.id not in outer


def stray_attributes(text):
    """The attributes that a file assigns otherwise than through a local name."""
    outer = module_names(text)
    return [ast.unparse(node) for node in nodes(text, ast.Attribute)
            if not isinstance(node.ctx, ast.Load) and not is_through_local(node, outer)]


class LanguageTest(unittest.TestCase):
    def assert_none(self, path, wrong):
        """Nothing wrong was found in the file."""
        self.assertEqual(list(wrong), [], path.name)

    def test_there_are_files(self):
        self.assertIn("__init__.py", [path.name for path, _ in sources()])

    def test_nothing_but_files_of_python(self):
        for path in PACKAGE.glob("**/*"):
            if "__pycache__" not in path.parts and path.is_file():
                self.assertRegex(path.name, r"\A(__init__|__main__|[a-z][a-z0-9_]*)\.py\Z")

    def test_signs(self):
        for path, text in sources():
            self.assert_none(path, [sign for sign in text if not (" " <= sign <= "~" or sign == "\n")])

    def test_sizes(self):
        for path, text in sources():
            lines = text.split("\n")
            self.assertLessEqual(len(lines), 399, path.name)
            self.assert_none(path, [line for line in lines if len(line) > 120])
            self.assert_none(path, [node.name for node in nodes(text, ast.FunctionDef)
                                    if node.end_lineno - node.lineno + 1 > 40])

    def test_words(self):
        for path, text in sources():
            self.assert_none(path, BARRED_WORDS & set(re.findall(r"\w+", text)))
            self.assert_none(path, re.findall("dataclass|overload|contextmanager", text))

    def test_imports(self):
        for path, text in sources():
            self.assert_none(path, nodes(text, ast.Import))
            for node in nodes(text, ast.ImportFrom):
                self.assertRegex(node.module, r"\Awalkbox\.[a-z]+\Z", path.name)
                there = (PACKAGE / f"{node.module.split('.')[1]}.py").read_text()
                self.assert_none(path, {alias.name for alias in node.names} - set(bound_names(there)))

    def test_builtins(self):
        for path, text in sources():
            used = {node.id for node in nodes(text, ast.Name)} & set(vars(builtins))
            self.assert_none(path, used - CALLED)

    def test_names(self):
        for path, text in sources():
            names = set(bound_names(text)) - DOUBLE
            self.assert_none(path, names & BARRED_NAMES)
            self.assert_none(path, names & set(vars(builtins)))
            self.assert_none(path, [name for name in names if not re.fullmatch("[A-Za-z][A-Za-z0-9_]*", name)])

    def test_no_name_has_the_name_of_a_class_or_an_import(self):
        for path, text in sources():
            taken = imported_names(text) | {node.name for node in nodes(text, ast.ClassDef)}
            local = {node.arg for node in nodes(text, ast.arg)}
            local |= {node.id for node in nodes(text, ast.Name) if isinstance(node.ctx, ast.Store)}
            self.assert_none(path, taken & local)
            self.assert_none(path, (local | {node.name for node in nodes(text, ast.FunctionDef)}) & UNUSED_NAMES)

    def test_no_two_files_import_from_each_other(self):
        reached = {path.stem: {node.module.split(".")[1] for node in nodes(text, ast.ImportFrom)} for path, text in sources()}
        for _ in reached:
            for file, others in reached.items():
                reached[file] = others | {further for other in others for further in reached[other]}
        self.assertEqual([file for file in reached if file in reached[file]], [])

    def test_methods_that_are_called(self):
        for path, text in sources():
            called = {node.func.attr for node in nodes(text, ast.Call) if isinstance(node.func, ast.Attribute)}
            self.assert_none(path, called - METHODS - own_methods())

    def test_own_methods_have_no_names_of_builtin_ones(self):
        self.assertEqual(own_methods() & METHODS, set())

    def test_only_own_errors_are_caught(self):
        for path, text in sources():
            for node in nodes(text, ast.ExceptHandler):
                caught = node.type.elts if isinstance(node.type, ast.Tuple) else [node.type]
                self.assert_none(path, {name.id for name in caught} - imported_names(text))

    def test_what_stands_in_a_finally(self):
        for path, text in sources():
            for node in nodes(text, ast.Try):
                for row in node.finalbody:
                    call = getattr(row, "value", None)
                    self.assertIsInstance(call, ast.Call, path.name)
                    self.assertEqual(call.func.attr, "append", path.name)
                    self.assertTrue(all(is_simple(part) for part in call.args), path.name)

    def test_statements_and_expressions(self):
        # Some of these are allowed by narrow rules; the package does without them, so that none of those applies.
        barred = (ast.Set, ast.SetComp, ast.GeneratorExp, ast.Lambda, ast.Global, ast.AsyncFunctionDef, ast.With, ast.Match,
                  ast.Yield, ast.Pow, ast.NamedExpr, ast.AnnAssign)
        for path, text in sources():
            self.assert_none(path, nodes(text, *barred))

    def test_is_only_of_none_and_truths(self):
        for path, text in sources():
            for node in nodes(text, ast.Compare):
                for sign, right in zip(node.ops, node.comparators):
                    if isinstance(sign, (ast.Is, ast.IsNot)):
                        self.assertIn(getattr(right, "value", "no constant"), (None, True, False), path.name)

    def test_values(self):
        for path, text in sources():
            values = [node.value for node in nodes(text, ast.Constant)]
            self.assert_none(path, [value for value in values if isinstance(value, float)])
            self.assert_none(path, [value for value in values if isinstance(value, str) and "%" in value])
            self.assert_none(path, nodes(text, ast.Div))

    def test_any_and_all_take_lists(self):
        for path, text in sources():
            calls = [node for node in nodes(text, ast.Call)
                     if getattr(node.func, "id", "") in ("any", "all", "min", "max", "sum", "sorted")]
            self.assert_none(path, [part for node in calls for part in node.args
                                    if isinstance(part, ast.GeneratorExp)])

    def test_no_name_is_a_method_and_an_attribute(self):
        methods, attributes = set(), set()
        for _, text in sources():
            for node in nodes(text, ast.ClassDef):
                methods |= {part.name for part in node.body if isinstance(part, ast.FunctionDef)}
            attributes |= {node.attr for node in nodes(text, ast.Attribute)
                           if isinstance(node.ctx, ast.Store)}
        self.assertEqual(methods & attributes, set())

    def test_attributes_are_assigned_through_local_names(self):
        for path, text in sources():
            self.assert_none(path, stray_attributes(text))


class StrayAttributesTest(unittest.TestCase):
    """The look at attributes sees what it should, in code that the package hasn't."""

    HEAD = "from walkbox.maps import Map\nROWS = ()\nclass Box:\n    pass\ndef step(self, box, row):\n    "

    def assert_stray(self, code, *wanted):
        self.assertEqual(stray_attributes(self.HEAD + code), list(wanted), code)

    def test_on_what_a_call_tells(self):
        self.assert_stray("self.made(row).many = 1", "self.made(row).many")
        self.assert_stray("Box().many = 1", "Box().many")
        self.assert_stray("self.made(row).many += 1", "self.made(row).many")
        self.assert_stray("self.made(row).inner.many = 1", "self.made(row).inner.many")
        self.assert_stray("self.made(row)[0].many = 1", "self.made(row)[0].many")
        self.assert_stray("row, self.made(row).many = 1, 2", "self.made(row).many")
        self.assert_stray("row = self.made(row).many = 1", "self.made(row).many")
        self.assert_stray("for self.made(row).many in box: pass", "self.made(row).many")

    def test_on_other_things_without_a_name(self):
        self.assert_stray("(box or row).many = 1", "(box or row).many")
        self.assert_stray("[box][0].many = 1", "[box][0].many")

    def test_on_names_of_the_module(self):
        self.assert_stray("Box.many = 1", "Box.many")
        self.assert_stray("Map.many = 1", "Map.many")
        self.assert_stray("ROWS.many = 1", "ROWS.many")
        self.assert_stray("ROWS[0].many = 1", "ROWS[0].many")
        self.assert_stray("step.many = 1", "step.many")

    def test_through_local_names(self):
        for code in ("self.many = 1", "box.many += 1", "box.rows[row].many = 1", "twin = Box(); twin.many = 1",
                     "row = self.made(row); row.many = 1", "self.made(row).many.append(1)", "row = self.made(row).many"):
            self.assert_stray(code)


if __name__ == "__main__":
    unittest.main()
