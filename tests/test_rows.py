"""Rows: put, shut, unshut, sent, ended, wanted, taken, told, refusals, equality, length, copies."""

import itertools
import unittest

from tests.helper import NAMES, Stranger, no_walkers, other_maps, others_than, sample_map, shown
from walkbox.errors import NoSuch
from walkbox.rows import Rows

THIRTY = 10 ** 30 - 1
ONE = ("letter", "ann", "bob", "one")
TWO = ("letter", "ann", "bob", "two")
ECHO = ("echo", "bob", "yard", "row", ("ann", 2))


def sample():
    return Rows(sample_map())


def done(*deeds, grounds=None):
    """Rows to which such has been done: tuples of a method's name and its arguments, or "taken", "sent"."""
    rows = Rows(grounds or sample_map())
    for word, *parts in deeds:
        do(rows, word, *parts)
    return rows


def do(rows, word, *parts):
    if word == "sent":
        return rows.taken(sent=True)
    return getattr(rows, word)(*parts)


def picture(rows):
    """All that rows tell."""
    return rows.told(), rows.ahead(), len(rows)


FULL = [("put", "ann", 1, ONE), ("put", "ann", 1, TWO), ("put", "bob", 3, ONE), ("sent",), ("shut", "ann", 1),
        ("ended", "ann", 1), ("unshut", "cid", 2), ("shut", "cid", 9)]


class OneRow:
    """What the document says of a single row, step by step."""

    def __init__(self):
        self.parcels, self.shut, self.sent, self.ended, self.ahead = [], False, False, False, False

    def there(self):
        return bool(self.parcels) or self.shut or (self.sent and not self.ended)

    def settle(self):
        """What isn't there is as if it had never been there."""
        if not self.there():
            self.sent = self.ended = False

    def do(self, word, parcel):
        """One step; told is what `taken` tells."""
        told = None
        if word == "put":
            self.parcels.append(parcel)
        elif word == "shut":
            self.shut = self.shut or not self.ahead
            self.ahead = False
        elif word == "unshut":
            self.ahead = self.ahead or not self.shut
            self.shut = False
        elif word == "ended":
            self.ended = self.there()
        elif self.parcels and not self.shut:
            told = ("ann", 2, self.parcels.pop(0))
            self.sent = self.sent or word == "sent"
        self.settle()
        return told

    def told(self):
        row = ("ann", 2, self.shut, self.sent, self.ended, list(self.parcels))
        return [row] if self.there() else []


class OneRowTest(unittest.TestCase):
    def test_every_order(self):
        words = ["put", "shut", "unshut", "taken", "sent", "ended"]
        for course in itertools.product(words, repeat=5):
            rows, wanted = sample(), OneRow()
            for number, word in enumerate(course):
                parcel = ("letter", "ann", "bob", f"w{number}")
                parts = [] if word in ("taken", "sent") else ["ann", 2] + [parcel] * (word == "put")
                self.assertEqual(do(rows, word, *parts), wanted.do(word, parcel), course)
                self.assertEqual(rows.told(), wanted.told(), course)
                self.assertEqual(rows.ahead(), [("ann", 2)] if wanted.ahead else [], course)
                self.assertIs(rows.wanted("ann", 2), wanted.there(), course)
                self.assertEqual(len(rows), len(wanted.parcels), course)

    def test_nothing_at_first(self):
        self.assertEqual(picture(sample()), ([], [], 0))
        self.assertIs(sample().taken(), None)
        self.assertIs(sample().taken(sent=True), None)
        for name in NAMES:
            self.assertIs(sample().wanted(name, 1), False)

    def test_put_and_taken(self):
        rows = done(("put", "ann", 2, ONE), ("put", "ann", 2, TWO), ("put", "ann", 2, ECHO))
        self.assertEqual(rows.told(), [("ann", 2, False, False, False, [ONE, TWO, ECHO])])
        self.assertEqual([rows.taken() for _ in range(4)],
                         [("ann", 2, ONE), ("ann", 2, TWO), ("ann", 2, ECHO), None])
        self.assertEqual(picture(rows), ([], [], 0))
        self.assertEqual(rows, sample())

    def test_shut_without_anything(self):
        rows = done(("shut", "ann", 2))
        self.assertEqual(rows.told(), [("ann", 2, True, False, False, [])])
        self.assertIs(rows.wanted("ann", 2), True)
        rows.unshut("ann", 2)
        self.assertEqual(rows, sample())
        self.assertIs(rows.wanted("ann", 2), False)

    def test_shut_twice_and_unshut_once(self):
        rows = done(("shut", "ann", 2), ("shut", "ann", 2), ("unshut", "ann", 2))
        self.assertEqual(rows, sample())

    def test_unshut_ahead_once_however_often(self):
        rows = done(("unshut", "ann", 2), ("unshut", "ann", 2), ("unshut", "ann", 2))
        self.assertEqual(picture(rows), ([], [("ann", 2)], 0))
        self.assertIs(rows.wanted("ann", 2), False)
        rows.shut("ann", 2)
        self.assertEqual(picture(rows), ([], [], 0))
        rows.shut("ann", 2)
        self.assertEqual(picture(rows), ([("ann", 2, True, False, False, [])], [], 0))

    def test_unshut_ahead_of_a_row_that_is_there(self):
        rows = done(("put", "ann", 2, ONE), ("unshut", "ann", 2))
        self.assertEqual(picture(rows), ([("ann", 2, False, False, False, [ONE])], [("ann", 2)], 1))
        rows.shut("ann", 2)
        self.assertEqual(picture(rows), ([("ann", 2, False, False, False, [ONE])], [], 1))

    def test_unshut_ahead_is_of_one_row(self):
        rows = done(("unshut", "ann", 2), ("shut", "ann", 3), ("shut", "bob", 2))
        self.assertEqual(picture(rows),
                         ([("bob", 2, True, False, False, []), ("ann", 3, True, False, False, [])], [("ann", 2)], 0))

    def test_empty_and_sent_till_it_is_ended(self):
        rows = done(("put", "ann", 2, ONE), ("sent",))
        self.assertEqual(picture(rows), ([("ann", 2, False, True, False, [])], [], 0))
        self.assertIs(rows.wanted("ann", 2), True)
        self.assertIs(rows.taken(), None)
        rows.ended("ann", 2)
        self.assertEqual(rows, sample())

    def test_ended_till_it_is_empty_and_not_shut(self):
        rows = done(("put", "ann", 2, ONE), ("put", "ann", 2, TWO), ("sent",), ("shut", "ann", 2), ("ended", "ann", 2))
        self.assertEqual(rows.told(), [("ann", 2, True, True, True, [TWO])])
        self.assertIs(rows.taken(sent=True), None)
        rows.unshut("ann", 2)
        self.assertEqual(rows.told(), [("ann", 2, False, True, True, [TWO])])
        self.assertEqual(rows.taken(sent=True), ("ann", 2, TWO))
        self.assertEqual(rows, sample())

    def test_ended_where_it_is_not_there(self):
        rows = done(("ended", "ann", 2), ("put", "ann", 2, ONE))
        self.assertEqual(rows.told(), [("ann", 2, False, False, False, [ONE])])

    def test_a_row_that_comes_anew(self):
        rows = done(("shut", "ann", 2), ("put", "ann", 2, ONE), ("unshut", "ann", 2), ("ended", "ann", 2), ("sent",))
        self.assertIs(rows.wanted("ann", 2), False)
        rows.put("ann", 2, TWO)
        self.assertEqual(rows.told(), [("ann", 2, False, False, False, [TWO])])

    def test_what_is_told_of_a_deed(self):
        rows = sample()
        self.assertIs(rows.put("ann", 2, ONE), None)
        self.assertIs(rows.shut("ann", 2), None)
        self.assertIs(rows.unshut("ann", 2), None)
        self.assertIs(rows.ended("ann", 2), None)
        self.assertIs(type(rows.taken()), tuple)

    def test_by_names(self):
        rows = Rows(grounds=sample_map())
        rows.put(parcel=ONE, stay=2, writer="ann")
        rows.shut(stay=2, writer="ann")
        self.assertIs(rows.wanted(stay=2, writer="ann"), True)
        rows.ended(stay=2, writer="ann")
        self.assertEqual(rows.told(), [("ann", 2, True, False, True, [ONE])])
        rows.unshut(stay=2, writer="ann")
        self.assertEqual(rows.taken(sent=False), ("ann", 2, ONE))
        with self.assertRaises(TypeError):
            rows.taken(True)


class TakenTest(unittest.TestCase):
    def test_by_writers_in_order_then_by_stays(self):
        rows = sample()
        keys = [("ann", 3), ("cid", 1), ("ann", 10), ("bob", 7), ("ann", 2), ("bob", THIRTY), ("cid", 20)]
        for writer, stay in keys:
            rows.put(writer, stay, ONE)
        wanted = [("bob", 7), ("bob", THIRTY), ("ann", 2), ("ann", 3), ("ann", 10), ("cid", 1), ("cid", 20)]
        self.assertEqual([row[:2] for row in rows.told()], wanted)
        self.assertEqual([rows.taken() for _ in keys], [(*key, ONE) for key in wanted])
        self.assertIs(rows.taken(), None)

    def test_in_the_order_of_the_map(self):
        for grounds in other_maps():
            rows = done(*[("put", name, 1, ONE) for name in NAMES], *[("unshut", name, 2) for name in NAMES],
                        grounds=grounds)
            wanted = [name for name in grounds.walkers() if name in NAMES]
            self.assertEqual([row[0] for row in rows.told()], wanted)
            self.assertEqual([name for name, _ in rows.ahead()], wanted)
            self.assertEqual([rows.taken()[0] for _ in NAMES], wanted)

    def test_past_shut_rows(self):
        rows = done(("put", "bob", 1, ONE), ("put", "bob", 2, TWO), ("put", "ann", 1, ECHO), ("shut", "bob", 1),
                    ("shut", "ann", 1), ("put", "cid", 4, ONE))
        self.assertEqual(rows.taken(), ("bob", 2, TWO))
        self.assertEqual(rows.taken(), ("cid", 4, ONE))
        self.assertIs(rows.taken(), None)
        rows.unshut("ann", 1)
        self.assertEqual(rows.taken(), ("ann", 1, ECHO))
        rows.unshut("bob", 1)
        self.assertEqual(rows.taken(), ("bob", 1, ONE))

    def test_past_empty_rows(self):
        rows = done(("put", "bob", 1, ONE), ("sent",), ("put", "bob", 2, TWO))
        self.assertEqual(rows.taken(), ("bob", 2, TWO))

    def test_only_its_own_row_is_sent(self):
        rows = done(("put", "bob", 1, ONE), ("put", "bob", 2, ONE), ("put", "ann", 1, ONE), ("sent",))
        self.assertEqual(rows.told(), [("bob", 1, False, True, False, []), ("bob", 2, False, False, False, [ONE]),
                                       ("ann", 1, False, False, False, [ONE])])

    def test_sent_stays_sent(self):
        rows = done(("put", "bob", 1, ONE), ("put", "bob", 1, TWO), ("sent",), ("taken",))
        self.assertEqual(rows.told(), [("bob", 1, False, True, False, [])])

    def test_nothing_to_take_changes_nothing(self):
        rows = done(("put", "bob", 1, ONE), ("shut", "bob", 1))
        before = picture(rows)
        for _ in range(2):
            self.assertIs(rows.taken(sent=True), None)
            self.assertIs(rows.taken(), None)
            self.assertEqual(picture(rows), before)

    def test_four_hundred(self):
        rows = sample()
        for number in range(400):
            rows.put("ann", 1 + number % 7, ("letter", "ann", "bob", f"w{number}"))
        self.assertEqual(len(rows), 400)
        taken = [rows.taken() for _ in range(400)]
        self.assertEqual(taken, [("ann", 1 + first, ("letter", "ann", "bob", f"w{number}"))
                                 for first in range(7) for number in range(first, 400, 7)])


class AheadTest(unittest.TestCase):
    def test_by_writers_in_order_then_by_stays(self):
        rows = sample()
        for writer, stay in [("ann", 3), ("cid", 1), ("ann", 10), ("bob", 7), ("ann", 2)]:
            rows.unshut(writer, stay)
        self.assertEqual(rows.ahead(), [("bob", 7), ("ann", 2), ("ann", 3), ("ann", 10), ("cid", 1)])
        rows.shut("ann", 3)
        self.assertEqual(rows.ahead(), [("bob", 7), ("ann", 2), ("ann", 10), ("cid", 1)])
        self.assertEqual(rows.told(), [])


class RefusedTest(unittest.TestCase):
    def test_a_writer_that_is_none(self):
        for writer in no_walkers():
            rows = done(*FULL)
            before = picture(rows)
            for call in (lambda: rows.put(writer, 1, ONE), lambda: rows.shut(writer, 1),
                         lambda: rows.unshut(writer, 1), lambda: rows.ended(writer, 1),
                         lambda: rows.wanted(writer, 1)):
                with self.assertRaises(NoSuch, msg=shown(writer)) as caught:
                    call()
                self.assertIs(caught.exception.who, writer)
                self.assertEqual(picture(rows), before)
            self.assertEqual(rows, done(*FULL))


class OwnListsTest(unittest.TestCase):
    def test_told_and_then_changed(self):
        rows = done(*FULL)
        before = picture(rows)
        told = rows.told()
        for row in told:
            row[5].append(ECHO)
        told.clear()
        rows.told()[0][5].clear()
        rows.ahead().clear()
        self.assertEqual(picture(rows), before)
        self.assertEqual(rows, done(*FULL))

    def test_what_was_told_stays(self):
        rows = done(*FULL)
        told, ahead = rows.told(), rows.ahead()
        wanted = (done(*FULL).told(), done(*FULL).ahead())
        rows.put("ann", 1, ECHO)
        rows.unshut("ann", 1)
        rows.unshut("ann", 7)
        rows.taken()
        self.assertEqual((told, ahead), wanted)

    def test_no_two_told_lists_are_one(self):
        rows = done(*FULL)
        self.assertIsNot(rows.told(), rows.told())
        self.assertIsNot(rows.ahead(), rows.ahead())
        for one, two in zip(rows.told(), rows.told()):
            self.assertIsNot(one[5], two[5])
        empty = done(("shut", "ann", 1), ("shut", "bob", 1)).told()
        self.assertIsNot(empty[0][5], empty[1][5])

    def test_kinds_of_what_is_told(self):
        for row in done(*FULL).told():
            self.assertIs(type(row), tuple)
            self.assertEqual([type(part) for part in row], [str, int, bool, bool, bool, list])

    def test_no_rows_know_of_others(self):
        grounds = sample_map()
        one, two = Rows(grounds), Rows(grounds)
        one.put("ann", 1, ONE)
        one.unshut("bob", 1)
        self.assertEqual(picture(two), ([], [], 0))
        self.assertEqual(picture(Rows(grounds)), ([], [], 0))
        self.assertEqual(grounds, sample_map())


class SameTest(unittest.TestCase):
    def assert_equal(self, one, two):
        self.assertEqual([one == two, two == one, one != two, two != one], [True, True, False, False])

    def assert_unlike(self, one, two):
        self.assertEqual([one == two, two == one, one != two, two != one], [False, False, True, True])

    def test_equal(self):
        self.assert_equal(sample(), sample())
        self.assert_equal(done(*FULL), done(*FULL))

    def test_put_in_another_order(self):
        self.assert_equal(done(("put", "ann", 1, ONE), ("put", "bob", 1, TWO), ("unshut", "ann", 5), ("unshut", "cid", 2)),
                          done(("unshut", "cid", 2), ("unshut", "ann", 5), ("put", "bob", 1, TWO), ("put", "ann", 1, ONE)))

    def test_each_single_part(self):
        put = [("put", "ann", 1, ONE), ("put", "ann", 1, ONE)]
        unlike = [
            [], put[:1], put, [("put", "ann", 1, TWO)], [("put", "bob", 1, ONE)], [("put", "ann", 2, ONE)],
            put[:1] + [("put", "ann", 1, TWO)], [("put", "ann", 1, TWO)] + put[:1],
            put[:1] + [("shut", "ann", 1)], put[:1] + [("ended", "ann", 1)], put + [("sent",)],
            put[:1] + [("unshut", "ann", 1)], put[:1] + [("unshut", "ann", 2)], put[:1] + [("unshut", "bob", 1)],
            [("unshut", "ann", 1)], [("shut", "ann", 1)],
        ]
        for one, two in itertools.combinations(unlike, 2):
            self.assert_unlike(done(*one), done(*two))

    def test_whatever_was_done_before(self):
        self.assert_equal(done(("put", "ann", 1, ONE), ("taken",), ("shut", "bob", 2), ("unshut", "bob", 2),
                               ("unshut", "cid", 1), ("shut", "cid", 1)), sample())

    def test_another_map(self):
        for grounds in other_maps():
            self.assert_unlike(sample(), Rows(grounds))
            self.assert_unlike(done(*FULL), done(*FULL, grounds=grounds))

    def test_anything_else(self):
        for rows in (sample(), done(*FULL)):
            for other in others_than(rows) + [rows.told(), picture(rows)]:
                self.assert_unlike(rows, other)
            self.assertIs(rows == Stranger(), False)


class CopiesTest(unittest.TestCase):
    def test_a_copy_stands_alike(self):
        twin = done(*FULL).copied()
        self.assertIs(type(twin), Rows)
        self.assertEqual(twin, done(*FULL))
        self.assertEqual(picture(twin), picture(done(*FULL)))

    def test_each_goes_its_own_way(self):
        further = [("put", "ann", 1, ECHO), ("unshut", "ann", 1), ("put", "bob", 3, TWO), ("sent",), ("ended", "bob", 3),
                   ("shut", "cid", 2), ("unshut", "bob", 4), ("shut", "bob", 6)]
        for at in range(2):
            pair = [done(*FULL)]
            pair.append(pair[0].copied())
            for word, *parts in further:
                do(pair[at], word, *parts)
                self.assertEqual(picture(pair[1 - at]), picture(done(*FULL)))
            self.assertEqual(pair[at], done(*FULL, *further))
            self.assertEqual(pair[1 - at], done(*FULL))
            self.assertNotEqual(pair[0], pair[1])

    def test_flags_go_their_own_way(self):
        rows = done(("put", "ann", 1, ONE), ("put", "ann", 1, TWO))
        twin = rows.copied()
        rows.shut("ann", 1)
        rows.ended("ann", 1)
        self.assertEqual(twin.told(), [("ann", 1, False, False, False, [ONE, TWO])])
        twin.taken(sent=True)
        self.assertEqual(rows.told(), [("ann", 1, True, False, True, [ONE, TWO])])


if __name__ == "__main__":
    unittest.main()
