"""is_thing, is_parcel and walker_of."""

import unittest

from tests.helper import no_texts, shown
from walkbox.things import is_parcel, is_thing, walker_of

THIRTY = 10 ** 30 - 1

LETTER = ("letter", "ann", "bob", "hi7")
ECHO = ("echo", "bob", "hall", "came", ("ann", 3))
ANSWER = ("answer", "bob", "came", ("ann", 3), ("yard", 4))
GOER = ("goer", "bob", 3, ("ann", "cid"))
KINDS = (LETTER, ECHO, ANSWER, GOER)

NO_NAMES = ["", " ", "Bob", "bob1", "b b", "bob\n", "abcdefghi"] + no_texts()
NO_WORDS = ["", " ", "Hi", "h i", "hi\n", "hi-7", "abcdefghijklm"] + no_texts()
NO_SORTS = ["", "Came", "came ", "came\n", "come", "goer", "letter", "rows", "as"] + no_texts()
NO_NUMBERS = [True, False, None, "3", "", b"3", [3], (3,), {3: 3}, -1, -THIRTY]


def replaced(thing, at, part):
    """The thing with another part at that place."""
    return thing[:at] + (part,) + thing[at + 1:]


class ThingsTest(unittest.TestCase):
    def assert_things(self, things, parcels, walker=None):
        for thing in things:
            self.assertIs(is_thing(thing), True, shown(thing))
            self.assertIs(is_parcel(thing), parcels, shown(thing))
            if walker is not None:
                self.assertEqual(walker_of(thing), walker)

    def assert_none(self, things):
        for thing in things:
            self.assertIs(is_thing(thing), False, shown(thing))
            self.assertIs(is_parcel(thing), False, shown(thing))

    def assert_part(self, thing, at, good, bad):
        """With each good part it is still a thing of its kind, with no bad one."""
        self.assert_things([replaced(thing, at, part) for part in good], thing in (LETTER, ECHO))
        self.assert_none([replaced(thing, at, part) for part in bad])

    def assert_number(self, thing, at, wrapped, least):
        """The number of a thing is a whole one from the least on."""
        good = [least, least + 1, least + 2, 10, THIRTY]
        bad = NO_NUMBERS + list(range(-2, least))
        self.assert_part(thing, at, [wrapped(part) for part in good], [wrapped(part) for part in bad])

    def assert_pair(self, thing, at, least):
        """The part is a tuple of a NAME and a number."""
        name, number = thing[at]
        good = [(part, number) for part in ("a", "abcdefgh", "bob", "hall")]
        bad = [(part, number) for part in NO_NAMES]
        bad += [[name, number], (), (name,), (number,), (name, number, number), (number, name),
                (name, name), (name, (number,)), ((name, number),), name, number, {name: number}]
        self.assert_part(thing, at, good, bad + no_texts())
        self.assert_number(thing, at, lambda part: (name, part), least)

    def test_letter(self):
        self.assert_things([LETTER], True, "bob")
        self.assert_part(LETTER, 1, ["a", "bob", "abcdefgh"], NO_NAMES)
        self.assert_part(LETTER, 2, ["a", "ann", "abcdefgh"], NO_NAMES)
        self.assert_part(LETTER, 3, ["a", "7", "007", "abcdefghijkl", "012345678901"], NO_WORDS)

    def test_a_letter_to_oneself(self):
        self.assert_things([("letter", "ann", "ann", "ann")], True, "ann")

    def test_echo(self):
        self.assert_things([ECHO], True, "bob")
        self.assert_part(ECHO, 1, ["a", "ann", "abcdefgh"], NO_NAMES)
        self.assert_part(ECHO, 2, ["a", "yard", "abcdefgh"], NO_NAMES)
        self.assert_part(ECHO, 3, ["came", "short", "ask", "row"], NO_SORTS)
        self.assert_pair(ECHO, 4, 0)

    def test_answer(self):
        self.assert_things([ANSWER], False, "bob")
        self.assert_part(ANSWER, 1, ["a", "ann", "abcdefgh"], NO_NAMES)
        self.assert_part(ANSWER, 2, ["came", "short", "ask", "row"], NO_SORTS)
        self.assert_pair(ANSWER, 3, 0)
        self.assert_pair(ANSWER, 4, 1)

    def test_goer(self):
        self.assert_things([GOER], False, "bob")
        self.assert_part(GOER, 1, ["a", "ann", "abcdefgh"], NO_NAMES)
        self.assert_number(GOER, 2, lambda part: part, 2)

    def test_shut(self):
        good = [(), ("ann",), ("bob",), ("cid", "ann"), ("bob", "ann", "cid"), tuple("abcdefgh")]
        bad = [("ann", "ann"), ("ann", "cid", "ann"), ("ann", "cid", "cid"), (("ann",),), ["ann"], [],
               {"ann"}, {}, None, "ann", "", 0, True, ("ann", 3), (3, "ann")]
        bad += [("ann", part) for part in NO_NAMES] + [(part,) for part in NO_NAMES]
        self.assert_part(GOER, 3, good, bad)

    def test_numbers_at_their_limits(self):
        for number, (mark, news, stay) in {0: (True, False, False), 1: (True, True, False),
                                           2: (True, True, True)}.items():
            self.assertIs(is_thing(("echo", "bob", "hall", "row", ("ann", number))), mark)
            self.assertIs(is_thing(("answer", "bob", "row", ("ann", number), ("hall", 1))), mark)
            self.assertIs(is_thing(("answer", "bob", "row", ("ann", 1), ("hall", number))), news)
            self.assertIs(is_thing(("goer", "bob", number, ())), stay)

    def test_first_part(self):
        kinds = ["letter", "echo", "answer", "goer"]
        for thing in KINDS:
            bad = [kind for kind in kinds if kind != thing[0]]
            bad += ["", "Letter", "letter ", "goer\n", "parcel", "came", ("letter",)] + no_texts()
            self.assert_part(thing, 0, [thing[0]], bad)

    def test_a_part_left_out(self):
        for thing in KINDS:
            self.assert_none([thing[:at] + thing[at + 1:] for at in range(len(thing))])
            self.assert_none([thing[:many] for many in range(len(thing))])

    def test_one_part_more(self):
        for thing in KINDS:
            for part in ("ann", "hi7", "came", 3, (), ("ann", 3), None):
                self.assert_none([thing[:at] + (part,) + thing[at:] for at in range(len(thing) + 1)])

    def test_two_parts_changed_about(self):
        self.assert_none([
            ("echo", "bob", "came", "hall", ("ann", 3)),
            ("answer", "bob", ("ann", 3), "came", ("yard", 4)),
            ("answer", "came", "bob", ("ann", 3), ("yard", 4)),
            ("goer", 3, "bob", ("ann", "cid")),
            ("goer", "bob", ("ann", "cid"), 3),
        ])

    def test_lists_for_tuples(self):
        self.assert_none([list(thing) for thing in KINDS])
        self.assert_none([
            ("echo", "bob", "hall", "came", ["ann", 3]),
            ("answer", "bob", "came", ["ann", 3], ("yard", 4)),
            ("answer", "bob", "came", ("ann", 3), ["yard", 4]),
            ("goer", "bob", 3, ["ann", "cid"]),
            ("goer", "bob", 3, []),
        ])

    def test_true_for_a_number(self):
        self.assert_none([
            ("echo", "bob", "hall", "came", ("ann", True)),
            ("echo", "bob", "hall", "came", ("ann", False)),
            ("answer", "bob", "came", ("ann", True), ("yard", 4)),
            ("answer", "bob", "came", ("ann", 3), ("yard", True)),
            ("goer", "bob", True, ()),
        ])

    def test_what_is_no_tuple(self):
        self.assert_none(no_texts())
        self.assert_none(["", "letter", "letter ann bob hi7", "goer bob 3", {"letter": LETTER}, {LETTER}])

    def test_tuples_around_things(self):
        self.assert_none([(thing,) for thing in KINDS])
        self.assert_none([(thing, 0) for thing in KINDS])
        self.assert_none([KINDS])

    def test_for_whom(self):
        self.assertEqual(walker_of(("letter", "x", "y", "z")), "y")
        self.assertEqual(walker_of(("echo", "x", "y", "row", ("z", 0))), "x")
        self.assertEqual(walker_of(("answer", "x", "row", ("y", 0), ("z", 1))), "x")
        self.assertEqual(walker_of(("goer", "x", 2, ("y", "z"))), "x")
        self.assertEqual(walker_of(("echo", "letter", "y", "row", ("z", 0))), "letter")
        self.assertEqual(walker_of(("goer", "letter", 2, ())), "letter")

    def test_names_that_are_kinds_and_sorts(self):
        self.assert_things([("letter", "letter", "echo", "goer")], True, "echo")
        self.assert_things([("echo", "echo", "came", "came", ("row", 0))], True, "echo")
        self.assert_things([("goer", "goer", 2, ("goer", "echo"))], False, "goer")

    def test_by_names(self):
        self.assertIs(is_thing(thing=GOER), True)
        self.assertIs(is_thing(thing=GOER[:3]), False)
        self.assertIs(is_parcel(thing=ECHO), True)
        self.assertIs(is_parcel(thing=GOER), False)
        self.assertEqual(walker_of(thing=LETTER), "bob")

    def test_asked_again_and_not_changed(self):
        row = ["ann", 3]
        thing = ("echo", "bob", "hall", "came", row)
        for _ in range(2):
            self.assertIs(is_thing(thing), False)
            self.assertIs(is_parcel(thing), False)
            self.assertEqual(row, ["ann", 3])
            self.assertIs(is_thing(ECHO), True)
            self.assertEqual(walker_of(ECHO), "bob")


if __name__ == "__main__":
    unittest.main()
