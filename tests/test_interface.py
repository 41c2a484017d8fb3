"""The interface: each name in its own file, each method in its own class, each argument by its name."""

import ast
import importlib
import inspect
import pathlib
import unittest

PACKAGE = pathlib.Path(__file__).resolve().parent.parent / "walkbox"

FUNCTIONS = {
    "maps": {"is_name": "(thing)", "is_word": "(thing)"},
    "things": {"is_thing": "(thing)", "is_parcel": "(thing)", "walker_of": "(thing)"},
    "thingtexts": {"thing_text": "(thing)", "thing_of": "(text)"},
}

METHODS = {
    "errors": {
        "NoMap": {"__init__": "(self, what, who)"},
        "NoTurn": {"__init__": "(self, host, walker)"},
        "NoPlan": {"__init__": "(self, who)"},
        "NoText": {"__init__": "(self, row)"},
        "NoSuch": {"__init__": "(self, who)"},
        "Still": {"__init__": "(self, source, goal)"},
        "NoBar": {"__init__": "(self, what, mark)"},
        "Away": {"__init__": "(self, who)"},
        "Here": {"__init__": "(self, host, walker)"},
        "NoNews": {"__init__": "(self, host, walker)"},
        "Begun": {"__init__": "(self, host, walker)"},
        "TooMany": {"__init__": "(self, limit)"},
        "WalkError": {}, "NoThing": {}, "NoWord": {}, "NoRow": {},
    },
    "maps": {
        "Map": {
            "__init__": "(self, hosts, walkers)",
            "hosts": "(self)", "walkers": "(self)",
            "home": "(self, walker)", "others": "(self, host)",
            "has_host": "(self, name)", "has_walker": "(self, name)",
            "__eq__": "(self, other)", "__len__": "(self)", "__repr__": "(self)",
        },
    },
    "links": {
        "Links": {
            "__init__": "(self, grounds)",
            "put": "(self, source, goal, thing, *, number=0)",
            "take": "(self, source, goal)", "entries": "(self, source, goal)",
            "busy": "(self)", "copied": "(self)",
            "__eq__": "(self, other)", "__len__": "(self)",
        },
    },
    "posts": {
        "Post": {
            "__init__": "(self, grounds, host, walker)",
            "of_host": "(self)", "of_walker": "(self)",
            "last": "(self)", "sign": "(self)", "news": "(self)", "bars": "(self)", "height": "(self)",
            "came": "(self, stay)", "left": "(self, goal, stay)",
            "turned": "(self, host, number)", "heard": "(self, host, stay)",
            "sent": "(self, sort, mark, *, first)", "answered": "(self, sort, mark)",
            "copied": "(self)", "__eq__": "(self, other)",
        },
    },
    "shelves": {
        "Shelf": {
            "__init__": "(self)",
            "put": "(self, number, parcel)", "taken": "(self, *, height=0)", "told": "(self)",
            "copied": "(self)", "__eq__": "(self, other)", "__len__": "(self)",
        },
    },
}


def defined(file, sort):
    """The names that a file defines at its top, by `def` or by `class`."""
    tree = ast.parse((PACKAGE / f"{file}.py").read_text())
    return {node.name for node in tree.body if isinstance(node, sort)}


class InterfaceTest(unittest.TestCase):
    def test_functions(self):
        for file, functions in FUNCTIONS.items():
            module = importlib.import_module(f"walkbox.{file}")
            for name, signature in functions.items():
                with self.subTest(file=file, name=name):
                    self.assertIn(name, defined(file, ast.FunctionDef))
                    self.assertEqual(str(inspect.signature(getattr(module, name))), signature)

    def test_classes(self):
        for file, classes in METHODS.items():
            module = importlib.import_module(f"walkbox.{file}")
            for name, methods in classes.items():
                self.assertIn(name, defined(file, ast.ClassDef))
                for method, signature in methods.items():
                    with self.subTest(file=file, name=name, method=method):
                        own = vars(getattr(module, name))
                        self.assertIn(method, own)
                        self.assertEqual(str(inspect.signature(own[method])), signature)


if __name__ == "__main__":
    unittest.main()
