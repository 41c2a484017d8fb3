"""Histories and maps as texts, written and read."""

import random
import unittest

from tests.helper import drawn_map, drawn_worlds, no_texts, sample_map, shown
from walkbox.errors import NoText
from walkbox.histories import history_text, map_text, read_history, read_map
from walkbox.maps import Map
from walkbox.worlds import World

TEXT = ("write ann bob hi7\nwalk bob attic\nhand hall yard\nhand yard attic\nhand yard attic\nhand attic yard\n"
        "hand yard attic\nask hall bob\nhand hall yard\nhand yard attic\nhand attic hall\nshort hall bob\n")
ROWS = TEXT.split("\n")[:-1]
DEEDS = [tuple(row.split(" ")) for row in ROWS]


class HistoryTextTest(unittest.TestCase):
    def test_each_kind_of_deed(self):
        self.assertEqual(history_text([("write", "ann", "bob", "hi7")]), "write ann bob hi7\n")
        self.assertEqual(history_text([("walk", "ann", "hall")]), "walk ann hall\n")
        self.assertEqual(history_text([("ask", "hall", "bob")]), "ask hall bob\n")
        self.assertEqual(history_text([("short", "hall", "bob")]), "short hall bob\n")
        self.assertEqual(history_text([("hand", "hall", "yard")]), "hand hall yard\n")
        self.assertEqual(history_text([]), "")
        self.assertEqual(history_text(deeds=DEEDS), TEXT)

    def test_what_is_handed_in_is_not_changed(self):
        deeds = list(DEEDS)
        history_text(deeds)
        self.assertEqual(deeds, DEEDS)

    def test_there_and_back(self):
        self.assertEqual(read_history(sample_map(), TEXT), DEEDS)
        self.assertEqual(read_history(text=TEXT, grounds=sample_map()), DEEDS)
        self.assertEqual({deed[0] for deed in DEEDS}, {"write", "walk", "ask", "short", "hand"})
        self.assertEqual([type(deed) for deed in read_history(sample_map(), TEXT)], [tuple] * len(DEEDS))

    def test_each_beginning(self):
        for many in range(len(DEEDS) + 1):
            self.assertEqual(read_history(sample_map(), history_text(DEEDS[:many])), DEEDS[:many])

    def test_the_text_without_signs(self):
        self.assertEqual(read_history(sample_map(), ""), [])

    def test_of_drawn_worlds(self):
        for seed in range(12):
            for world, _ in drawn_worlds(seed, 60):
                pass
            text = history_text(world.history())
            self.assertEqual(read_history(world.grounds(), text), world.history())
            again = World(world.grounds())
            again.run(read_history(world.grounds(), text))
            self.assertEqual(again, world)

    def test_long_ones(self):
        world = World(sample_map())
        for _ in range(300):
            world.ask("hall", "bob")
        world.quieted()
        self.assertEqual(len(world.history()), 900)
        self.assertEqual(read_history(sample_map(), history_text(world.history())), world.history())

    def test_told_lists_are_ones_own(self):
        one, two = read_history(sample_map(), TEXT), read_history(sample_map(), TEXT)
        self.assertIsNot(one, two)
        one.clear()
        self.assertEqual(read_history(sample_map(), TEXT), two)

    def test_the_map_is_not_changed(self):
        grounds = sample_map()
        read_history(grounds, TEXT)
        self.assertEqual(grounds, sample_map())
        self.assertEqual(read_history(grounds, TEXT), DEEDS)


class NoHistoryTest(unittest.TestCase):
    def assert_no_text(self, text, row):
        for _ in range(2):
            with self.assertRaises(NoText, msg=shown(text)) as caught:
                read_history(sample_map(), text)
            self.assertEqual((caught.exception.row, type(caught.exception.row)), (row, int))

    def test_what_is_no_text(self):
        for thing in no_texts() + [TEXT.encode(), DEEDS]:
            self.assert_no_text(thing, 0)

    def test_a_row_that_is_none(self):
        wrong = ["", " ", "write", "x", "write ann bob", "write ann bob hi7 hi8", "walk bob", "walk bob attic hall", "ask hall",
                 "ask hall bob x", "short hall", "short hall bob x", "hand hall", "hand hall yard x", "Write ann bob hi7",
                 "wrote ann bob hi7", "new hall yard", "write  ann bob hi7", " write ann bob hi7", "write ann bob hi7 ",
                 "write ann  bob hi7", "write ann bob ", "walk bob ", "walk  attic", "write\tann bob hi7", "quiet", "run 1 2"]
        for row in wrong:
            for at in range(len(ROWS) + 1):
                rows = ROWS[:at] + [row] + ROWS[at:]
                self.assert_no_text("".join(f"{each}\n" for each in rows), at + 1)

    def test_a_row_without_its_line_feed(self):
        for many in range(1, len(ROWS) + 1):
            self.assert_no_text("\n".join(ROWS[:many]), many)
        self.assert_no_text("write", 1)
        self.assert_no_text(TEXT + "x", len(ROWS) + 1)
        self.assert_no_text(TEXT + " ", len(ROWS) + 1)
        self.assert_no_text(" ", 1)

    def test_one_line_feed_more(self):
        self.assert_no_text("\n", 1)
        self.assert_no_text("\n" + TEXT, 1)
        self.assert_no_text(TEXT + "\n", len(ROWS) + 1)
        for at in range(1, len(ROWS)):
            self.assert_no_text("\n".join(ROWS[:at] + [""] + ROWS[at:]) + "\n", at + 1)

    def test_two_rows_in_one(self):
        self.assert_no_text(TEXT.replace("\n", " ", 1), 1)
        self.assert_no_text("write ann bob\nhi7\n", 1)

    def test_a_blank_at_an_end(self):
        for at, row in enumerate(ROWS):
            for other in (f"{row} ", f" {row}", row.replace(" ", "  ", 1)):
                self.assert_no_text("".join(f"{each}\n" for each in ROWS[:at] + [other] + ROWS[at + 1:]), at + 1)

    def test_a_deed_that_is_refused(self):
        # Each behind the write and the walk, by each refusal that there is.
        for row in ["write dan bob a", "write ann dan a", "write ann bob A", "write ann bob aaaaaaaaaaaaa", "write bob ann a",
                    "walk dan hall", "walk bob hall", "walk ann hall", "walk ann barn", "ask barn bob", "ask hall dan",
                    "ask hall ann", "short barn bob", "short hall dan", "short hall ann", "short hall bob", "hand barn hall",
                    "hand hall barn", "hand hall hall", "hand attic hall"]:
            self.assert_no_text("\n".join(ROWS[:2] + [row] + ROWS[2:]) + "\n", 3)
            self.assert_no_text("\n".join(ROWS[:2] + [row, "x"]), 3)

    def test_begun(self):
        self.assert_no_text(TEXT + "short hall bob\n", len(ROWS) + 1)

    def test_a_row_left_out(self):
        self.assert_no_text("\n".join(ROWS[1:]) + "\n", 2)
        self.assert_no_text("\n".join(ROWS[:1] + ROWS[2:]) + "\n", 3)

    def test_a_row_said_twice(self):
        self.assert_no_text("\n".join(ROWS[:2] + ROWS[1:]) + "\n", 3)
        self.assert_no_text("\n".join(ROWS[:3] + ROWS[2:]) + "\n", 4)

    def test_rows_exchanged(self):
        self.assert_no_text("\n".join([ROWS[2], *ROWS[:2], *ROWS[3:]]) + "\n", 1)
        self.assert_no_text("\n".join([*ROWS[:6], ROWS[7], ROWS[8], ROWS[6], ROWS[11], *ROWS[9:11]]) + "\n", 10)

    def test_with_another_map(self):
        with self.assertRaises(NoText) as caught:
            read_history(Map(["hall", "yard"], [("ann", "hall"), ("bob", "yard")]), TEXT)
        self.assertEqual(caught.exception.row, 2)


class MapTextTest(unittest.TestCase):
    def test_written(self):
        self.assertEqual(map_text(Map(["hall", "yard"], [("ann", "hall"), ("bob", "yard")])), "hall yard ann@hall bob@yard")
        self.assertEqual(map_text(grounds=sample_map()), "hall yard attic bob@yard ann@hall cid@hall")

    def test_there_and_back(self):
        for seed in range(40):
            grounds = drawn_map(random.Random(seed))
            self.assertEqual(read_map(map_text(grounds)), grounds)
        self.assertEqual(read_map(text="hall yard ann@hall"), Map(["hall", "yard"], [("ann", "hall")]))
        self.assertIs(type(read_map("hall yard ann@hall")), Map)

    def test_the_largest_and_the_smallest(self):
        hosts = [letter * 8 for letter in "abcdef"]
        text = " ".join(hosts + [f"{letter * 8}@{hosts[0]}" for letter in "ghijk"])
        self.assertEqual(map_text(read_map(text)), text)
        self.assertEqual(read_map("a b c@a"), Map(["a", "b"], [("c", "a")]))


class NoMapTextTest(unittest.TestCase):
    def assert_no_text(self, text, row=1):
        for _ in range(2):
            with self.assertRaises(NoText, msg=shown(text)) as caught:
                read_map(text)
            self.assertEqual((caught.exception.row, type(caught.exception.row)), (row, int))

    def test_what_is_no_text(self):
        for thing in no_texts() + [b"hall yard ann@hall", ["hall", "yard"], sample_map()]:
            self.assert_no_text(thing, 0)

    def test_words_left_out_said_twice_exchanged(self):
        words = "hall yard attic bob@yard ann@hall cid@hall".split(" ")
        for at, word in enumerate(words):
            twice = words[:at] + [word] + words[at:]
            self.assert_no_text(" ".join(twice))
        self.assert_no_text(" ".join(words[1:]))
        self.assert_no_text(" ".join(words[:1] + words[2:]))
        self.assert_no_text("hall bob@hall")
        self.assert_no_text("hall yard")
        self.assert_no_text(" ".join(words[:2] + [words[3], words[2]] + words[4:]))

    def test_walkers_ahead_of_hosts(self):
        self.assert_no_text("ann@hall hall yard")
        self.assert_no_text("hall ann@hall yard")
        self.assert_no_text("hall yard ann@hall attic bob@yard")

    def test_signs_more_or_less(self):
        for text in ["", " ", "@", "hall yard ann@hall ", " hall yard ann@hall", "hall  yard ann@hall", "hall yard  ann@hall",
                     "hall yard ann@hall\n", "hall yard\nann@hall", "hall yard ann@@hall", "hall yard ann@hall@yard",
                     "hall yard @hall", "hall yard ann@", "hall yard @", "hall yard ann @hall", "hall yard ann@ hall",
                     "hall yard annhall", "Hall yard ann@Hall", "hall yard ann@barn", "hall yard hall@yard", "hall yard ann@ann",
                     "hall yard2 ann@hall", "hall yard ann1@hall", "hall,yard,ann@hall", "abcdefghi yard ann@yard",
                     "hall yard abcdefghi@hall", "hall hall ann@hall", "hall yard ann@hall ann@yard"]:
            self.assert_no_text(text)

    def test_too_many(self):
        self.assert_no_text("a b c d e f g x@a")
        self.assert_no_text("a b u@a v@a w@a x@a y@a z@a")
        self.assertEqual(len(read_map("a b c d e f x@a")), 6)
        self.assertEqual(len(read_map("a b u@a v@a w@a x@a y@a").walkers()), 5)


if __name__ == "__main__":
    unittest.main()
