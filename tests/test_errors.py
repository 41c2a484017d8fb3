"""The error classes: fields, bases, and what catches them."""

import builtins
import unittest

from walkbox import errors

# Of each class: its base class, and the fields by which it is made.
CLASSES = {
    "WalkError": ("ValueError", None),
    "NoMap": ("WalkError", ("what", "who")),
    "NoTurn": ("WalkError", ("host", "walker")),
    "NoPlan": ("WalkError", ("who",)),
    "NoText": ("WalkError", ("row",)),
    "NoThing": ("WalkError", None),
    "NoWord": ("WalkError", None),
    "NoRow": ("WalkError", None),
    "NoSuch": ("LookupError", ("who",)),
    "Still": ("IndexError", ("source", "goal")),
    "NoBar": ("KeyError", ("what", "mark")),
    "Away": ("RuntimeError", ("who",)),
    "Here": ("RuntimeError", ("host", "walker")),
    "NoNews": ("RuntimeError", ("host", "walker")),
    "Begun": ("RuntimeError", ("host", "walker")),
    "TooMany": ("ArithmeticError", ("limit",)),
}

# What catches each class, but itself, Exception and BaseException.
CATCHERS = {
    "WalkError": {"ValueError"},
    "NoMap": {"WalkError", "ValueError"},
    "NoTurn": {"WalkError", "ValueError"},
    "NoPlan": {"WalkError", "ValueError"},
    "NoText": {"WalkError", "ValueError"},
    "NoThing": {"WalkError", "ValueError"},
    "NoWord": {"WalkError", "ValueError"},
    "NoRow": {"WalkError", "ValueError"},
    "NoSuch": {"LookupError"},
    "Still": {"IndexError", "LookupError"},
    "NoBar": {"KeyError", "LookupError"},
    "Away": {"RuntimeError"},
    "Here": {"RuntimeError"},
    "NoNews": {"RuntimeError"},
    "Begun": {"RuntimeError"},
    "TooMany": {"ArithmeticError"},
}

VALUES = ["bob", "hall", "", 0, 3, 10 ** 29, None, ("bob", 3), ["bob"], {"bob": []}]


def found(name):
    """The class of that name, of the package or of Python."""
    return getattr(errors, name, None) or getattr(builtins, name)


def python_errors():
    """The names of Python's own errors below Exception."""
    return {
        name for name, held in vars(builtins).items()
        if isinstance(held, type) and issubclass(held, Exception) and held is not Exception
        and held.__name__ == name
    }


def made(name):
    """An error of that class, however it is made."""
    fields = CLASSES[name][1]
    return found(name)(*fields) if fields else found(name)("a text")


def is_caught(error, catcher):
    """Whether an `except` of that class catches the error."""
    try:
        try:
            raise error
        except catcher:
            return True
    except Exception:
        return False


class ErrorsTest(unittest.TestCase):
    def test_every_class_stands_straight_under_its_base(self):
        for name, (base, _) in CLASSES.items():
            with self.subTest(name=name):
                self.assertEqual(found(name).__bases__, (found(base),))
                self.assertEqual(found(name).__module__, "walkbox.errors")
                self.assertEqual(found(name).__name__, name)

    def test_there_is_no_other_class(self):
        classes = {name for name, held in vars(errors).items() if isinstance(held, type)}
        self.assertEqual(classes, set(CLASSES))

    def test_fields_by_places(self):
        for name, (_, fields) in CLASSES.items():
            for at in range(len(VALUES) if fields else 0):
                values = [VALUES[at - k] for k in range(len(fields))]
                with self.subTest(name=name, values=values):
                    error = found(name)(*values)
                    self.assertEqual([getattr(error, field) for field in fields], values)

    def test_fields_by_names(self):
        for name, (_, fields) in CLASSES.items():
            for at in range(len(VALUES) if fields else 0):
                values = [VALUES[at - k] for k in range(len(fields))]
                with self.subTest(name=name, values=values):
                    error = found(name)(**dict(zip(fields, values)))
                    self.assertEqual([getattr(error, field) for field in fields], values)
                    turned = found(name)(**dict(list(zip(fields, values))[::-1]))
                    self.assertEqual([getattr(turned, field) for field in fields], values)

    def test_fields_by_a_place_and_a_name(self):
        for name, (_, fields) in CLASSES.items():
            if fields and len(fields) == 2:
                with self.subTest(name=name):
                    error = found(name)("first", **{fields[1]: "second"})
                    self.assertEqual(getattr(error, fields[0]), "first")
                    self.assertEqual(getattr(error, fields[1]), "second")

    def test_fields_are_all_that_is_handed_in(self):
        for name, (_, fields) in CLASSES.items():
            if fields:
                with self.subTest(name=name):
                    with self.assertRaises(TypeError):
                        found(name)(*fields[1:])
                    with self.assertRaises(TypeError):
                        found(name)(*fields, "more")

    def test_made_of_a_text(self):
        for name in ("NoThing", "NoWord", "NoRow"):
            with self.subTest(name=name):
                with self.assertRaises(found(name)) as caught:
                    raise found(name)("what was wrong")
                self.assertEqual(str(caught.exception), "what was wrong")

    def test_fields_are_read_back_where_it_is_caught(self):
        for name, (_, fields) in CLASSES.items():
            with self.subTest(name=name):
                with self.assertRaises(found(name)) as caught:
                    raise made(name)
                for field in fields or ():
                    self.assertEqual(getattr(caught.exception, field), field)

    def test_two_errors_have_fields_of_their_own(self):
        one, two = errors.NoMap("name", "0"), errors.NoMap("again", "hall")
        self.assertEqual((one.what, one.who), ("name", "0"))
        self.assertEqual((two.what, two.who), ("again", "hall"))

    def test_caught_by_just_the_classes_that_are_told(self):
        for name, catchers in CATCHERS.items():
            wanted = catchers | {name}
            for catcher in set(CLASSES) | python_errors():
                with self.subTest(name=name, catcher=catcher):
                    self.assertEqual(is_caught(made(name), found(catcher)), catcher in wanted)
            self.assertTrue(is_caught(made(name), Exception))

    def test_none_stands_under_another_one(self):
        for name in CLASSES:
            for other in CLASSES:
                if other not in (name, "WalkError"):
                    with self.subTest(name=name, other=other):
                        self.assertFalse(issubclass(found(name), found(other)))


if __name__ == "__main__":
    unittest.main()
