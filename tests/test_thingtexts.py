"""thing_text and thing_of."""

import re
import unittest

from tests.helper import no_texts, shown
from walkbox.errors import NoThing, WalkError
from walkbox.things import is_thing
from walkbox.thingtexts import thing_of, thing_text

THIRTY = 10 ** 30 - 1
SORTS = ("came", "short", "ask", "row")
NINE = ("ann", "cid", "dan", "eve", "fay", "gus", "hal", "ida", "abcdefgh")

# Texts with the things of which they are.
PAIRS = [
    ("letter ann bob hi7", ("letter", "ann", "bob", "hi7")),
    ("letter ann ann 0", ("letter", "ann", "ann", "0")),
    ("letter a abcdefgh 007", ("letter", "a", "abcdefgh", "007")),
    ("letter abcdefgh b abcdefghijkl", ("letter", "abcdefgh", "b", "abcdefghijkl")),
    ("letter letter echo goer", ("letter", "letter", "echo", "goer")),
    ("echo bob hall came bob 3", ("echo", "bob", "hall", "came", ("bob", 3))),
    ("echo bob hall row ann 0", ("echo", "bob", "hall", "row", ("ann", 0))),
    ("echo echo came came row 10", ("echo", "echo", "came", "came", ("row", 10))),
    ("answer bob came bob 3 yard 4", ("answer", "bob", "came", ("bob", 3), ("yard", 4))),
    ("answer bob ask bob 0 yard 1", ("answer", "bob", "ask", ("bob", 0), ("yard", 1))),
    ("answer ask ask ask 100 ask 20", ("answer", "ask", "ask", ("ask", 100), ("ask", 20))),
    ("goer bob 3 ann cid", ("goer", "bob", 3, ("ann", "cid"))),
    ("goer bob 3 cid ann", ("goer", "bob", 3, ("cid", "ann"))),
    ("goer bob 2", ("goer", "bob", 2, ())),
    ("goer bob 2 bob", ("goer", "bob", 2, ("bob",))),
    ("goer goer 10 goer", ("goer", "goer", 10, ("goer",))),
    ("goer bob 19 " + " ".join(NINE), ("goer", "bob", 19, NINE)),
]

NAME, WORD, SORT = "[a-z]{1,8}", "[a-z0-9]{1,12}", "(came|short|ask|row)"
FORMS = [
    f"letter {NAME} {NAME} {WORD}",
    f"echo {NAME} {NAME} {SORT} {NAME} (0|[1-9][0-9]*)",
    f"answer {NAME} {SORT} {NAME} (0|[1-9][0-9]*) {NAME} [1-9][0-9]*",
    f"goer {NAME} ([2-9]|[1-9][0-9]+)( {NAME})*",
]


def is_form(text):
    """Whether it is the text of some thing, told by patterns."""
    shut = text.split(" ")[3:]
    return (any(re.fullmatch(form, text) for form in FORMS)
            and not (text.startswith("goer ") and len(set(shut)) < len(shut)))


def joined(words):
    return " ".join(words)


def near(text):
    """Texts that differ from this one in a word or in a sign."""
    words = text.split(" ")
    for at in range(len(words) + 1):
        for word in ("ann", "came", "row", "3", "0", "1", "03", "hi7", "", "\n", "abcdefghi", "abcdefghijklm"):
            yield joined(words[:at] + [word] + words[at:])
            yield joined(words[:at] + [word] + words[at + 1:])
    for at in range(len(words)):
        yield joined(words[:at] + words[at + 1:])
        yield joined(words[:at + 1] + words[at:])
        yield joined(words[:at] + words[at:at + 2][::-1] + words[at + 2:])
        yield joined(words[:at])
    for at in range(len(text) + 1):
        for sign in " \n0193+-_.,azA@":
            yield text[:at] + sign + text[at:]
            yield text[:at] + sign + text[at + 1:]
        yield text[:at] + text[at + 1:]


class ThingTextsTest(unittest.TestCase):
    def assert_both(self, text, thing):
        self.assertTrue(is_thing(thing))
        self.assertEqual(thing_text(thing), text)
        self.assertIs(type(thing_text(thing)), str)
        self.assertEqual(thing_of(text), thing)
        self.assertTrue(is_thing(thing_of(text)))

    def assert_none(self, *texts):
        for text in texts:
            with self.assertRaises(NoThing, msg=shown(text)):
                thing_of(text)

    def test_there_and_back(self):
        for text, thing in PAIRS:
            with self.subTest(text=text):
                self.assert_both(text, thing)

    def test_each_sort(self):
        for sort in SORTS:
            self.assert_both(f"echo bob hall {sort} ann 3", ("echo", "bob", "hall", sort, ("ann", 3)))
            self.assert_both(f"answer bob {sort} ann 3 yard 4",
                             ("answer", "bob", sort, ("ann", 3), ("yard", 4)))
        for sort in ("", "came1", "Came", "come", "rows", "as", "goer", "here", "3"):
            self.assert_none(f"echo bob hall {sort} ann 3", f"answer bob {sort} ann 3 yard 4")

    def test_numbers(self):
        for number in (0, 1, 2, 3, 9, 10, 11, 99, 100, 101, 1000, 10 ** 29, THIRTY):
            self.assert_both(f"echo bob hall came bob {number}",
                             ("echo", "bob", "hall", "came", ("bob", number)))
            self.assert_both(f"answer bob came bob {number} yard 4",
                             ("answer", "bob", "came", ("bob", number), ("yard", 4)))
            if number >= 1:
                self.assert_both(f"answer bob came bob 3 yard {number}",
                                 ("answer", "bob", "came", ("bob", 3), ("yard", number)))
            if number >= 2:
                self.assert_both(f"goer bob {number}", ("goer", "bob", number, ()))

    def test_numbers_below_their_limits(self):
        self.assert_none("answer bob came bob 3 yard 0", "goer bob 1", "goer bob 0", "goer bob 1 ann",
                         "echo bob hall came bob -1", "answer bob came bob -1 yard 1", "goer bob -2")

    def test_numbers_that_are_none(self):
        for number in ("", "03", "00", "000", "01", "007", "+3", "-3", "-0", "+0", "3+", "3-", "1_0", "_3", "3_",
                       "3.0", "3e1", "0x3", "0b1", "x", "3x", "x3", "three", "None", "True", "\n3", "3\n",
                       "(3)", "3,", "1" * 29 + "x", "0" * 5000):
            self.assert_none(f"echo bob hall came bob {number}",
                             f"answer bob came bob {number} yard 4",
                             f"answer bob came bob 3 yard {number}",
                             f"goer bob {number}",
                             f"goer bob {number} ann")

    def test_many_figures_are_no_other_error(self):
        self.assert_none("goer bob " + "1" * 5000 + " Ann", "echo bob hall came bob " + "1" * 5900 + " 1")

    def test_names_and_words_that_are_none(self):
        for name in ("", "abcdefghi", "Ann", "ann7", "7", "a-n", "ann\n", "\nann", "@"):
            self.assert_none(f"letter {name} bob hi7", f"letter ann {name} hi7",
                             f"echo {name} hall came bob 3", f"echo bob {name} came bob 3",
                             f"echo bob hall came {name} 3",
                             f"answer {name} came bob 3 yard 4", f"answer bob came {name} 3 yard 4",
                             f"answer bob came bob 3 {name} 4",
                             f"goer {name} 3", f"goer bob 3 {name}", f"goer bob 3 ann {name}",
                             f"goer bob 3 {name} ann")
        for word in ("", "abcdefghijklm", "0123456789012", "Hi", "h-i", "hi\n", "\nhi", "h_i"):
            self.assert_none(f"letter ann bob {word}")

    def test_names_and_words_at_their_limits(self):
        self.assert_both("letter abcdefgh bcdefghi 0123456789ab",
                         ("letter", "abcdefgh", "bcdefghi", "0123456789ab"))
        self.assert_none("letter abcdefghi bcdefghi 0123456789ab",
                         "letter abcdefgh bcdefghij 0123456789ab",
                         "letter abcdefgh bcdefghi 0123456789abc")

    def test_shut(self):
        for many in range(len(NINE) + 1):
            text = joined(("goer", "bob", "3") + NINE[:many])
            self.assert_both(text, ("goer", "bob", 3, NINE[:many]))
            for name in NINE[:many]:
                self.assert_none(f"{text} {name}")
            if many:
                self.assert_none(f"{text} {NINE[0]} {NINE[0]}")

    def test_a_word_left_out(self):
        self.assert_none("letter", "letter ann", "letter ann bob", "ann bob hi7", "ann", "hi7",
                         "echo", "bob hall came bob 3", "echo hall came bob 3", "echo bob came bob 3",
                         "echo bob hall bob 3", "echo bob hall came 3", "echo bob hall came bob",
                         "answer", "bob came bob 3 yard 4", "answer came bob 3 yard 4",
                         "answer bob bob 3 yard 4", "answer bob came 3 yard 4", "answer bob came bob yard 4",
                         "answer bob came bob 3 4", "answer bob came bob 3 yard", "answer bob came bob 3",
                         "goer", "goer bob", "goer 3", "goer bob ann cid", "goer 3 ann cid", "bob 3 ann cid")

    def test_a_word_more(self):
        self.assert_none("letter letter ann bob hi7", "letter ann ann bob hi7", "letter ann bob hi7 hi7",
                         "letter ann bob hi7 0", "echo echo bob hall came bob 3",
                         "echo bob hall came came bob 3", "echo bob hall came bob 3 3",
                         "echo bob hall came bob 3 yard 4", "answer bob came bob 3 yard 4 4",
                         "answer bob hall came bob 3 yard 4", "answer bob came bob 3 3 yard 4",
                         "goer bob bob 3", "goer bob 3 3", "goer bob 3 ann 3", "goer goer bob 3")

    def test_words_exchanged(self):
        self.assert_none("ann letter bob hi7", "letter ann hi7 bob", "bob echo hall came bob 3",
                         "echo bob came hall bob 3", "echo bob hall bob came 3", "echo bob hall came 3 bob",
                         "answer came bob bob 3 yard 4", "answer bob came 3 bob yard 4",
                         "answer bob came bob yard 3 4", "answer bob came bob 3 4 yard",
                         "goer 3 bob ann cid", "goer bob ann 3 cid")

    def test_exchanged_names_are_another_thing(self):
        self.assert_both("letter bob ann hi7", ("letter", "bob", "ann", "hi7"))
        self.assert_both("echo hall bob came bob 3", ("echo", "hall", "bob", "came", ("bob", 3)))

    def test_other_kinds(self):
        self.assert_none("Letter ann bob hi7", "letters ann bob hi7", "parcel ann bob hi7", "LETTER ann bob hi7",
                         "answer ann bob hi7", "goer ann bob hi7", "letter bob 3 ann cid", "goers bob 3",
                         "letter bob hall came bob 3", "echo bob came bob 3 yard 4")

    def test_blanks_and_line_feeds(self):
        for text, _ in PAIRS:
            self.assert_none(text + " ", " " + text, text + "\n", "\n" + text, text + " \n",
                             text + "  ", text.replace(" ", "  "), text.replace(" ", "\n"),
                             text.replace(" ", ""), text.replace(" ", "  ", 1),
                             text + "\n" + text)

    def test_the_text_without_signs(self):
        self.assert_none("", " ", "  ", "\n")

    def test_near_texts(self):
        found = {True: 0, False: 0}
        for text, _ in PAIRS:
            for other in near(text):
                found[is_form(other)] += 1
                if is_form(other):
                    self.assertTrue(is_thing(thing_of(other)), other)
                    self.assertEqual(thing_text(thing_of(other)), other)
                else:
                    self.assert_none(other)
        self.assertGreater(min(found.values()), 1000)

    def test_what_is_no_text(self):
        self.assert_none(*no_texts())
        self.assert_none(b"goer bob 3", ["goer", "bob", "3"], ["goer bob 3"], {"goer bob 3": 1}, {"goer bob 3"})
        self.assert_none(*[thing for _, thing in PAIRS])

    def test_long_texts(self):
        self.assert_none("a" * 6000, "goer bob 3 " + "ann " * 1497, "letter ann bob " + "7" * 5985)
        letters = "abcdefghijklmnopqrstuvwxyz"
        names = tuple(one + two + three for one in letters for two in letters for three in letters)
        for many in (1400, 5000):
            thing = ("goer", "bob", 3, names[:many])
            self.assertEqual(thing_of(thing_text(thing)), thing)

    def test_it_is_a_walk_error(self):
        with self.assertRaises(WalkError):
            thing_of("goer")

    def test_by_names(self):
        self.assertEqual(thing_text(thing=("goer", "bob", 3, ())), "goer bob 3")
        self.assertEqual(thing_of(text="goer bob 3"), ("goer", "bob", 3, ()))
        with self.assertRaises(NoThing):
            thing_of(text=None)

    def test_asked_again_and_not_changed(self):
        row = ["goer bob 3"]
        for _ in range(2):
            self.assert_none(row, "goer bob 1")
            self.assertEqual(row, ["goer bob 3"])
            self.assert_both("goer bob 3 ann", ("goer", "bob", 3, ("ann",)))


if __name__ == "__main__":
    unittest.main()
