"""Shelf: put, taken by a height, told, equality, length, copies."""

import unittest

from tests.helper import Stranger, no_texts
from walkbox.shelves import Shelf

THIRTY = 10 ** 30 - 1
ONE = ("letter", "ann", "bob", "one")
TWO = ("letter", "ann", "bob", "two")
THREE = ("letter", "cid", "bob", "three")
ECHO = ("echo", "bob", "hall", "came", ("bob", 3))


def filled(*rows):
    """A shelf with such rows, tuples (number, parcel), put in this order."""
    shelf = Shelf()
    for number, parcel in rows:
        shelf.put(number, parcel)
    return shelf


def numbered(*numbers):
    """A shelf with a letter by each of the numbers."""
    return filled(*[(number, ONE) for number in numbers])


class ToldTest(unittest.TestCase):
    def test_empty_at_first(self):
        self.assertEqual(Shelf().told(), [])
        self.assertEqual(len(Shelf()), 0)
        self.assertIs(Shelf().taken(), None)
        self.assertIs(Shelf().taken(height=3), None)

    def test_by_numbers_rising(self):
        shelf = filled((5, ONE), (0, TWO), (9, THREE), (3, ECHO), (THIRTY, ONE), (1, TWO))
        self.assertEqual(shelf.told(), [(0, TWO), (1, TWO), (3, ECHO), (5, ONE), (9, THREE), (THIRTY, ONE)])

    def test_of_one_number_as_they_were_put(self):
        shelf = filled((3, TWO), (3, ONE), (3, ECHO), (3, ONE))
        self.assertEqual(shelf.told(), [(3, TWO), (3, ONE), (3, ECHO), (3, ONE)])
        shelf = filled((3, TWO), (1, ECHO), (3, ONE), (1, THREE), (2, ONE), (3, ECHO), (1, ONE))
        self.assertEqual(shelf.told(), [(1, ECHO), (1, THREE), (1, ONE), (2, ONE), (3, TWO), (3, ONE), (3, ECHO)])

    def test_numbers_are_no_texts(self):
        self.assertEqual(numbered(10, 9, 100, 2).told(), [(2, ONE), (9, ONE), (10, ONE), (100, ONE)])

    def test_kinds_of_what_is_told(self):
        shelf = filled((3, TWO))
        self.assertIs(shelf.put(1, ONE), None)
        self.assertIs(type(shelf.told()), list)
        self.assertIs(type(shelf.told()[0]), tuple)
        self.assertIs(type(shelf.taken()), tuple)

    def test_told_and_then_changed(self):
        shelf = filled((3, TWO), (1, ONE))
        told = shelf.told()
        told.clear()
        shelf.told().append((9, ECHO))
        shelf.told().reverse()
        self.assertEqual(shelf.told(), [(1, ONE), (3, TWO)])
        self.assertEqual(len(shelf), 2)
        self.assertEqual(shelf, filled((3, TWO), (1, ONE)))

    def test_what_was_told_stays(self):
        shelf = filled((3, TWO), (1, ONE))
        told = shelf.told()
        shelf.taken()
        shelf.put(0, ECHO)
        self.assertEqual(told, [(1, ONE), (3, TWO)])

    def test_no_two_told_lists_are_one(self):
        shelf = filled((3, TWO))
        self.assertIsNot(shelf.told(), shelf.told())
        self.assertIsNot(Shelf().told(), Shelf().told())

    def test_asked_again(self):
        shelf = filled((3, TWO), (1, ONE))
        for _ in range(2):
            self.assertEqual(shelf.told(), [(1, ONE), (3, TWO)])
            self.assertIs(shelf.taken(height=4), None)

    def test_no_shelf_knows_of_another_one(self):
        one, two = Shelf(), Shelf()
        one.put(1, ONE)
        self.assertEqual((len(one), len(two), len(Shelf())), (1, 0, 0))


class TakenTest(unittest.TestCase):
    def test_without_a_height(self):
        shelf = filled((5, ONE), (0, TWO), (5, THREE), (0, ECHO), (2, ONE))
        self.assertEqual([shelf.taken() for _ in range(6)],
                         [(0, TWO), (0, ECHO), (2, ONE), (5, ONE), (5, THREE), None])
        self.assertEqual(shelf.told(), [])

    def test_a_height_of_nought(self):
        shelf = filled((5, ONE), (0, TWO))
        self.assertEqual(shelf.taken(height=0), (0, TWO))
        self.assertEqual(shelf.taken(height=0), (5, ONE))
        self.assertIs(shelf.taken(height=0), None)

    def test_by_heights(self):
        # There is something by 2, 5 and 9.
        wanted = {0: 2, 1: 2, 2: 2, 3: 5, 4: 5, 5: 5, 6: 9, 7: 9, 8: 9, 9: 9}
        for height, number in wanted.items():
            shelf = numbered(9, 2, 5)
            self.assertEqual(shelf.taken(height=height), (number, ONE))
            self.assertEqual(shelf.told(), [(left, ONE) for left in (2, 5, 9) if left != number])

    def test_above_all(self):
        for height in (10, 11, 400, THIRTY):
            shelf = numbered(9, 2, 5)
            for _ in range(2):
                self.assertIs(shelf.taken(height=height), None)
                self.assertEqual(shelf.told(), [(2, ONE), (5, ONE), (9, ONE)])
                self.assertEqual(len(shelf), 3)

    def test_the_first_of_the_least_number(self):
        shelf = filled((5, TWO), (5, ONE), (3, ECHO), (9, ONE), (5, THREE), (3, ONE))
        self.assertEqual(shelf.taken(height=4), (5, TWO))
        self.assertEqual(shelf.taken(height=5), (5, ONE))
        self.assertEqual(shelf.taken(height=4), (5, THREE))
        self.assertEqual(shelf.taken(height=4), (9, ONE))
        self.assertIs(shelf.taken(height=4), None)
        self.assertEqual(shelf.told(), [(3, ECHO), (3, ONE)])
        self.assertEqual(shelf.taken(height=3), (3, ECHO))
        self.assertEqual(shelf.taken(), (3, ONE))

    def test_the_same_parcel_twice(self):
        shelf = filled((3, ONE), (3, ONE), (1, ONE))
        self.assertEqual(shelf.taken(height=2), (3, ONE))
        self.assertEqual(shelf.told(), [(1, ONE), (3, ONE)])

    def test_put_again_behind_those_of_its_number(self):
        shelf = filled((3, ONE), (3, TWO))
        number, parcel = shelf.taken()
        shelf.put(number, parcel)
        self.assertEqual(shelf.told(), [(3, TWO), (3, ONE)])

    def test_great_numbers(self):
        shelf = numbered(THIRTY, THIRTY - 1, THIRTY - 2)
        self.assertEqual(shelf.taken(height=THIRTY - 1), (THIRTY - 1, ONE))
        self.assertEqual(shelf.taken(height=THIRTY - 1), (THIRTY, ONE))
        self.assertIs(shelf.taken(height=THIRTY - 1), None)

    def test_by_names(self):
        shelf = Shelf()
        shelf.put(parcel=ONE, number=3)
        shelf.put(4, parcel=TWO)
        self.assertEqual(shelf.told(), [(3, ONE), (4, TWO)])
        self.assertEqual(shelf.taken(height=4), (4, TWO))

    def test_the_height_by_its_name_alone(self):
        shelf = numbered(3)
        with self.assertRaises(TypeError):
            shelf.taken(3)
        self.assertEqual(shelf.told(), [(3, ONE)])

    def test_four_hundred(self):
        numbers = [(7 * k) % 40 for k in range(400)]
        shelf = numbered(*numbers)
        self.assertEqual(len(shelf), 400)
        self.assertEqual([shelf.taken()[0] for _ in range(400)], sorted(numbers))


class SameTest(unittest.TestCase):
    def assert_equal(self, one, two):
        self.assertIs(one == two, True)
        self.assertIs(two == one, True)
        self.assertIs(one != two, False)
        self.assertIs(two != one, False)

    def assert_unlike(self, one, two):
        self.assertIs(one == two, False)
        self.assertIs(two == one, False)
        self.assertIs(one != two, True)
        self.assertIs(two != one, True)

    def test_equal(self):
        self.assert_equal(Shelf(), Shelf())
        self.assert_equal(filled((1, ONE), (1, TWO)), filled((1, ONE), (1, TWO)))
        shelf = numbered(1, 2)
        self.assert_equal(shelf, shelf)

    def test_filled_in_another_order(self):
        self.assert_equal(filled((1, ONE), (2, TWO), (1, THREE)), filled((2, TWO), (1, ONE), (1, THREE)))
        self.assert_equal(filled((1, ONE), (2, TWO), (1, THREE)), filled((1, ONE), (1, THREE), (2, TWO)))
        self.assert_equal(filled((1, ONE), (1, ONE)), filled((1, ONE), (1, ONE)))

    def test_whatever_was_put_and_taken_before(self):
        shelf = filled((2, TWO), (1, ONE), (0, ECHO))
        shelf.taken()
        self.assert_equal(shelf, filled((1, ONE), (2, TWO)))
        shelf.taken(height=1)
        shelf.taken(height=1)
        self.assert_equal(shelf, Shelf())

    def test_one_thing_otherwise(self):
        shelf = filled((1, ONE), (1, TWO), (2, ECHO))
        self.assert_unlike(shelf, filled((1, TWO), (1, ONE), (2, ECHO)))
        self.assert_unlike(shelf, filled((1, ONE), (1, THREE), (2, ECHO)))
        self.assert_unlike(shelf, filled((1, ONE), (2, TWO), (2, ECHO)))
        self.assert_unlike(shelf, filled((1, ONE), (1, TWO), (3, ECHO)))
        self.assert_unlike(shelf, filled((1, ONE), (1, TWO)))
        self.assert_unlike(shelf, filled((1, ONE), (1, TWO), (2, ECHO), (2, ECHO)))
        self.assert_unlike(shelf, Shelf())

    def test_anything_else(self):
        for shelf in (Shelf(), filled((1, ONE))):
            others = [thing for thing in no_texts() if not isinstance(thing, Stranger)]
            for other in others + ["", "ann", shelf.told(), tuple(shelf.told()), Shelf, len(shelf)]:
                self.assert_unlike(shelf, other)
            self.assertIs(shelf == Stranger(), False)
            self.assertIs(shelf != Stranger(), True)


class LengthTest(unittest.TestCase):
    def test_length(self):
        shelf = Shelf()
        for many, number in enumerate([3, 3, 0, 9]):
            self.assertEqual(len(shelf), many)
            shelf.put(number, ONE)
        self.assertEqual(len(shelf), 4)
        shelf.taken(height=10)
        self.assertEqual(len(shelf), 4)
        shelf.taken(height=4)
        self.assertEqual(len(shelf), 3)


class CopiesTest(unittest.TestCase):
    def test_a_copy_stands_alike(self):
        shelf = filled((2, TWO), (1, ONE), (2, ECHO))
        twin = shelf.copied()
        self.assertIsNot(twin, shelf)
        self.assertIs(type(twin), Shelf)
        self.assertEqual(twin, shelf)
        self.assertEqual((twin.told(), len(twin)), (shelf.told(), 3))
        self.assertEqual(Shelf().copied(), Shelf())

    def test_each_goes_its_own_way(self):
        for at in range(2):
            pair = [filled((2, TWO), (1, ONE))]
            pair.append(pair[0].copied())
            moving, resting = pair[at], pair[1 - at]
            moving.put(2, ECHO)
            moving.taken()
            self.assertEqual(resting.told(), [(1, ONE), (2, TWO)])
            self.assertEqual(moving.told(), [(2, TWO), (2, ECHO)])

    def test_copies_of_copies(self):
        shelf = filled((2, TWO))
        twin = shelf.copied()
        third = twin.copied()
        twin.taken()
        third.put(1, ONE)
        self.assertEqual([shelf.told(), twin.told(), third.told()], [[(2, TWO)], [], [(1, ONE), (2, TWO)]])


if __name__ == "__main__":
    unittest.main()
