"""is_name and is_word."""

import unittest

from tests.helper import no_texts, shown
from walkbox.maps import is_name, is_word

LETTERS = "abcdefghijklmnopqrstuvwxyz"
FIGURES = "0123456789"
SIGNS = [chr(code) for code in range(32, 127)] + ["\n", "\t", "\r", "\0"]


class NamesTest(unittest.TestCase):
    def assert_truth(self, told, wanted, thing):
        self.assertIs(told, wanted, shown(thing))

    def test_names(self):
        for thing in ("a", "z", "ann", "hall", "abcdefgh", "zzzzzzzz", LETTERS[:8], LETTERS[-8:]):
            self.assert_truth(is_name(thing), True, thing)

    def test_lengths_of_names(self):
        for many in range(20):
            self.assert_truth(is_name("a" * many), 1 <= many <= 8, "a" * many)
        self.assert_truth(is_name("a" * 6000), False, "a")

    def test_signs_of_names(self):
        for sign in SIGNS:
            for text in (sign, sign + "nn", "a" + sign + "n", "an" + sign, sign * 8):
                self.assert_truth(is_name(text), sign in LETTERS, text)

    def test_no_names(self):
        for text in ("", " ", "Ann", "aNn", "anN", "ANN", "ann1", "1ann", "1", "an n", " ann", "ann ",
                     "ann\n", "\nann", "\n", "a-n", "a_n", "ann@hall", "abcdefgh\n", "abcdefghi"):
            self.assert_truth(is_name(text), False, text)

    def test_words(self):
        for thing in ("a", "0", "9", "hi7", "7hi", "007", "abcdefghijkl", "012345678901", "ann"):
            self.assert_truth(is_word(thing), True, thing)

    def test_lengths_of_words(self):
        for many in range(20):
            self.assert_truth(is_word("a" * many), 1 <= many <= 12, "a" * many)
            self.assert_truth(is_word("7" * many), 1 <= many <= 12, "7" * many)
        self.assert_truth(is_word("a" * 6000), False, "a")

    def test_signs_of_words(self):
        for sign in SIGNS:
            for text in (sign, sign + "i7", "h" + sign + "7", "hi" + sign, sign * 12):
                self.assert_truth(is_word(text), sign in LETTERS + FIGURES, text)

    def test_no_words(self):
        for text in ("", " ", "Hi", "hI", "HI7", "hi 7", " hi", "hi ", "hi\n", "\nhi", "\n", "hi-7",
                     "hi_7", "-7", "+7", "7.0", "abcdefghijkl\n", "abcdefghijklm"):
            self.assert_truth(is_word(text), False, text)

    def test_what_is_no_text(self):
        for thing in no_texts():
            self.assert_truth(is_name(thing), False, thing)
            self.assert_truth(is_word(thing), False, thing)

    def test_by_name(self):
        self.assertIs(is_name(thing="ann"), True)
        self.assertIs(is_name(thing="hi7"), False)
        self.assertIs(is_word(thing="hi7"), True)
        self.assertIs(is_word(thing="hi 7"), False)

    def test_asked_again(self):
        for thing in ("ann", "hi7", "", None, ["ann"]):
            self.assertEqual(is_name(thing), is_name(thing))
            self.assertEqual(is_word(thing), is_word(thing))

    def test_what_is_handed_in_is_not_changed(self):
        row = ["ann", ["bob"]]
        is_name(row)
        is_word(row)
        self.assertEqual(row, ["ann", ["bob"]])


if __name__ == "__main__":
    unittest.main()
