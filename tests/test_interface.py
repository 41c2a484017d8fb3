"""The interface: each name in its own file, each method in its own class, each argument by its name."""

import ast
import importlib
import inspect
import pathlib
import unittest

PACKAGE = pathlib.Path(__file__).resolve().parent.parent / "walkbox"

FUNCTIONS = {
    "maps": {"is_name": "(thing)", "is_word": "(thing)"},
    "things": {"is_thing": "(thing)", "is_parcel": "(thing)", "walker_of": "(thing)"},
    "thingtexts": {"thing_text": "(thing)", "thing_of": "(text)"},
    "papers": {
        "holder": "(world, host, walker)",
        "whereabouts": "(world, host, walker, sort, mark)",
        "paper": "(world, host, walker)",
        "row_paper": "(world, writer, stay, walker)",
    },
    "judge": {"judged": "(plan, *, limit=2000)"},
    "histories": {
        "history_text": "(deeds)", "read_history": "(grounds, text)",
        "map_text": "(grounds)", "read_map": "(text)",
    },
}

METHODS = {
    "errors": {
        "NoMap": {"__init__": "(self, what, who)"},
        "NoTurn": {"__init__": "(self, host, walker)"},
        "NoPlan": {"__init__": "(self, who)"},
        "NoText": {"__init__": "(self, row)"},
        "NoSuch": {"__init__": "(self, who)"},
        "Still": {"__init__": "(self, source, goal)"},
        "NoBar": {"__init__": "(self, what, mark)"},
        "Away": {"__init__": "(self, who)"},
        "Here": {"__init__": "(self, host, walker)"},
        "NoNews": {"__init__": "(self, host, walker)"},
        "Begun": {"__init__": "(self, host, walker)"},
        "TooMany": {"__init__": "(self, limit)"},
        "WalkError": {}, "NoThing": {}, "NoWord": {}, "NoRow": {},
    },
    "maps": {
        "Map": {
            "__init__": "(self, hosts, walkers)",
            "hosts": "(self)", "walkers": "(self)",
            "home": "(self, walker)", "others": "(self, host)",
            "has_host": "(self, name)", "has_walker": "(self, name)",
            "__eq__": "(self, other)", "__len__": "(self)", "__repr__": "(self)",
        },
    },
    "links": {
        "Links": {
            "__init__": "(self, grounds)",
            "put": "(self, source, goal, thing, *, number=0)",
            "take": "(self, source, goal)", "entries": "(self, source, goal)",
            "busy": "(self)", "copied": "(self)",
            "__eq__": "(self, other)", "__len__": "(self)",
        },
    },
    "posts": {
        "Post": {
            "__init__": "(self, grounds, host, walker)",
            "of_host": "(self)", "of_walker": "(self)",
            "last": "(self)", "sign": "(self)", "news": "(self)", "bars": "(self)", "height": "(self)",
            "came": "(self, stay)", "left": "(self, goal, stay)",
            "turned": "(self, host, number)", "heard": "(self, host, stay)",
            "sent": "(self, sort, mark, *, first)", "answered": "(self, sort, mark)",
            "copied": "(self)", "__eq__": "(self, other)",
        },
    },
    "shelves": {
        "Shelf": {
            "__init__": "(self)",
            "put": "(self, number, parcel)", "taken": "(self, *, height=0)", "told": "(self)",
            "copied": "(self)", "__eq__": "(self, other)", "__len__": "(self)",
        },
    },
    "rows": {
        "Rows": {
            "__init__": "(self, grounds)",
            "put": "(self, writer, stay, parcel)", "shut": "(self, writer, stay)", "unshut": "(self, writer, stay)",
            "ended": "(self, writer, stay)", "wanted": "(self, writer, stay)", "taken": "(self, *, sent=False)",
            "told": "(self)", "ahead": "(self)",
            "copied": "(self)", "__eq__": "(self, other)", "__len__": "(self)",
        },
    },
    "offices": {
        "Office": {
            "__init__": "(self, grounds, host)",
            "take_in": "(self, thing, *, number=0)", "write": "(self, writer, stay, reader, word)",
            "leave": "(self, walker, stay, goal)", "ask": "(self, walker)", "shorten": "(self, walker)",
            "post": "(self, walker)", "shelf": "(self, walker)", "rows": "(self, walker)",
            "copied": "(self)", "__eq__": "(self, other)",
        },
    },
    "worlds": {
        "World": {
            "__init__": "(self, grounds)",
            "write": "(self, writer, reader, word)", "walk": "(self, walker, goal)",
            "ask": "(self, host, walker)", "shorten": "(self, host, walker)", "hand": "(self, source, goal)",
            "quieted": "(self, *, choices=(), most=100000)",
            "grounds": "(self)", "box": "(self, walker)", "place": "(self, walker)", "stay": "(self, walker)",
            "post": "(self, host, walker)", "shelf": "(self, host, walker)", "rows": "(self, host, walker)",
            "links": "(self)", "is_quiet": "(self)", "do": "(self, deed)", "run": "(self, deeds)",
            "history": "(self)", "log": "(self)", "copied": "(self)", "__eq__": "(self, other)", "key": "(self)",
        },
    },
    "plans": {
        "Plan": {
            "__init__": "(self, grounds, rows)",
            "grounds": "(self)", "rows": "(self)", "__eq__": "(self, other)", "__len__": "(self)",
        },
        "Course": {
            "__init__": "(self, plan)",
            "world": "(self)", "moves": "(self)", "go": "(self, move)", "left": "(self, walker)", "outcome": "(self)",
            "copied": "(self)", "key": "(self)",
        },
    },
    "judge": {"Verdict": {"many": "(self)", "outcomes": "(self)", "greatest": "(self)"}},
    "desk": {"Desk": {"__init__": "(self)", "say": "(self, row)"}},
}

VALUES = {"worlds": {"MOST": 100000}, "judge": {"LIMIT": 2000}}


def defined(file, sort):
    """The names that a file defines at its top, by `def` or by `class`."""
    tree = ast.parse((PACKAGE / f"{file}.py").read_text())
    return {node.name for node in tree.body if isinstance(node, sort)}


class InterfaceTest(unittest.TestCase):
    def test_functions(self):
        for file, functions in FUNCTIONS.items():
            module = importlib.import_module(f"walkbox.{file}")
            for name, signature in functions.items():
                with self.subTest(file=file, name=name):
                    self.assertIn(name, defined(file, ast.FunctionDef))
                    self.assertEqual(str(inspect.signature(getattr(module, name))), signature)

    def test_values(self):
        for file, values in VALUES.items():
            module = importlib.import_module(f"walkbox.{file}")
            for name, value in values.items():
                self.assertEqual(getattr(module, name), value)

    def test_classes(self):
        for file, classes in METHODS.items():
            module = importlib.import_module(f"walkbox.{file}")
            for name, methods in classes.items():
                self.assertIn(name, defined(file, ast.ClassDef))
                for method, signature in methods.items():
                    with self.subTest(file=file, name=name, method=method):
                        own = vars(getattr(module, name))
                        self.assertIn(method, own)
                        self.assertEqual(str(inspect.signature(own[method])), signature)


if __name__ == "__main__":
    unittest.main()
