"""Post: bars and height; equality and copies of posts."""

import unittest

from tests.helper import Stranger, no_texts
from walkbox.errors import NoBar
from walkbox.maps import Map
from walkbox.posts import Post

THIRTY = 10 ** 30 - 1
HOSTS = ["hall", "yard", "attic"]
WALKERS = [("bob", "yard"), ("ann", "hall")]


def sample_map():
    return Map(list(HOSTS), list(WALKERS))


def barred(*bars):
    """A post that has sent such echoes: tuples (sort, mark, first)."""
    post = Post(sample_map(), "hall", "bob")
    for sort, mark, first in bars:
        post.sent(sort, mark, first=first)
    return post


def picture(post):
    """All that a post tells."""
    return (post.of_host(), post.of_walker(), post.last(), post.sign(), post.news(), post.bars(), post.height())


class BarsTest(unittest.TestCase):
    def assert_no_bar(self, post, sort, mark):
        """Refused with NoBar; nothing is changed."""
        before, twin = picture(post), post.copied()
        for _ in range(2):
            with self.assertRaises(NoBar) as caught:
                post.answered(sort, mark)
            self.assertEqual((caught.exception.what, caught.exception.mark), (sort, mark))
            self.assertEqual(picture(post), before)
            self.assertEqual(post, twin)

    def test_none_at_first(self):
        post = barred()
        self.assertEqual((post.bars(), post.height()), ([], 0))
        self.assert_no_bar(post, "came", ("bob", 3))

    def test_in_the_order_in_which_they_were_sent(self):
        rows = [("short", ("yard", 7), 9), ("came", ("bob", 3), 2), ("ask", ("bob", 0), 1), ("came", ("bob", 2), 5)]
        post = barred()
        for many, (sort, mark, first) in enumerate(rows):
            self.assertEqual(post.bars(), rows[:many])
            self.assertIs(post.sent(sort, mark, first=first), None)
        self.assertEqual(post.bars(), rows)

    def test_kinds_of_what_is_told(self):
        post = barred(("came", ("bob", 3), 2))
        self.assertIs(type(post.bars()), list)
        self.assertIs(type(post.bars()[0]), tuple)
        self.assertIs(type(post.bars()[0][1]), tuple)
        self.assertIs(post.answered("came", ("bob", 3)), None)

    def test_answered_by_sort_and_mark(self):
        # Alike but for one part.
        rows = [("came", ("bob", 3), 2), ("short", ("bob", 3), 2), ("came", ("ann", 3), 2), ("came", ("bob", 4), 2)]
        for at, (sort, mark, _) in enumerate(rows):
            post = barred(*rows)
            post.answered(sort, mark)
            self.assertEqual(post.bars(), rows[:at] + rows[at + 1:])
            self.assert_no_bar(post, sort, mark)

    def test_the_first_such_bar_goes(self):
        post = barred(("ask", ("bob", 0), 1), ("came", ("bob", 3), 2), ("ask", ("bob", 0), 3), ("ask", ("bob", 0), 2))
        post.answered("ask", ("bob", 0))
        self.assertEqual(post.bars(), [("came", ("bob", 3), 2), ("ask", ("bob", 0), 3), ("ask", ("bob", 0), 2)])
        post.answered("ask", ("bob", 0))
        self.assertEqual(post.bars(), [("came", ("bob", 3), 2), ("ask", ("bob", 0), 2)])
        post.answered("ask", ("bob", 0))
        self.assertEqual(post.bars(), [("came", ("bob", 3), 2)])
        self.assert_no_bar(post, "ask", ("bob", 0))

    def test_bars_that_are_wholly_alike(self):
        post = barred(("ask", ("bob", 0), 1), ("ask", ("bob", 0), 1))
        self.assertEqual(len(post.bars()), 2)
        post.answered("ask", ("bob", 0))
        self.assertEqual(post.bars(), [("ask", ("bob", 0), 1)])

    def test_no_bar(self):
        post = barred(("came", ("bob", 3), 2), ("ask", ("bob", 0), 1))
        for sort, mark in [("short", ("bob", 3)), ("ask", ("bob", 3)), ("came", ("bob", 0)), ("came", ("bob", 2)),
                           ("came", ("bob", 4)), ("came", ("ann", 3)), ("row", ("bob", 3)), ("came", ("bob", THIRTY))]:
            self.assert_no_bar(post, sort, mark)

    def test_height(self):
        post = barred()
        heights = []
        for number, first in [(0, 9), (3, 1), (2, 8), (7, 2), (7, 1), (THIRTY, 4), (5, THIRTY)]:
            post.sent("came", ("bob", number), first=first)
            heights.append(post.height())
        self.assertEqual(heights, [0, 3, 3, 7, 7, THIRTY, THIRTY])
        heights = []
        for number in (THIRTY, 7, 7, 0, 5, 3, 2):
            post.answered("came", ("bob", number))
            heights.append(post.height())
        self.assertEqual(heights, [7, 7, 5, 5, 3, 2, 0])
        self.assertEqual(post.bars(), [])

    def test_height_is_of_every_sort(self):
        for sort in ("came", "short", "ask"):
            self.assertEqual(barred((sort, ("yard", 6), 1)).height(), 6)

    def test_the_first_has_no_bearing_on_the_height(self):
        self.assertEqual(barred(("ask", ("bob", 0), 9)).height(), 0)
        self.assertEqual(barred(("came", ("bob", 3), 9)).height(), 3)

    def test_great_numbers(self):
        post = barred(("came", ("bob", THIRTY), THIRTY), ("came", ("bob", THIRTY - 1), THIRTY))
        self.assertEqual(post.height(), THIRTY)
        post.answered("came", ("bob", THIRTY))
        self.assertEqual(post.bars(), [("came", ("bob", THIRTY - 1), THIRTY)])

    def test_by_names(self):
        post = barred()
        post.sent(first=2, mark=("bob", 3), sort="came")
        post.sent("ask", mark=("bob", 0), first=1)
        self.assertEqual(post.bars(), [("came", ("bob", 3), 2), ("ask", ("bob", 0), 1)])
        post.answered(mark=("bob", 3), sort="came")
        self.assertEqual(post.bars(), [("ask", ("bob", 0), 1)])
        with self.assertRaises(NoBar) as caught:
            post.answered(mark=("bob", 3), sort="came")
        self.assertEqual((caught.exception.what, caught.exception.mark), ("came", ("bob", 3)))

    def test_the_first_by_its_name_alone(self):
        post = barred()
        with self.assertRaises(TypeError):
            post.sent("came", ("bob", 3), 2)
        with self.assertRaises(TypeError):
            post.sent("came", ("bob", 3))
        self.assertEqual(post.bars(), [])

    def test_told_and_then_changed(self):
        rows = [("came", ("bob", 3), 2), ("ask", ("bob", 0), 1)]
        post = barred(*rows)
        told = post.bars()
        told.clear()
        post.bars().append(("came", ("bob", 9), 2))
        post.bars().reverse()
        self.assertEqual((post.bars(), post.height()), (rows, 3))
        self.assertEqual(post, barred(*rows))

    def test_what_was_told_stays(self):
        post = barred(("came", ("bob", 3), 2))
        told = post.bars()
        post.sent("ask", ("bob", 0), first=1)
        post.answered("came", ("bob", 3))
        self.assertEqual(told, [("came", ("bob", 3), 2)])

    def test_no_two_told_lists_are_one(self):
        post = barred(("came", ("bob", 3), 2))
        self.assertIsNot(post.bars(), post.bars())
        self.assertIsNot(barred().bars(), barred().bars())

    def test_the_rest_stays(self):
        post = barred()
        post.heard("attic", 4)
        post.sent("came", ("bob", 3), first=2)
        self.assertEqual((post.last(), post.sign(), post.news()), (0, ("yard", 1), ("attic", 4)))
        post.answered("came", ("bob", 3))
        self.assertEqual((post.last(), post.sign(), post.news()), (0, ("yard", 1), ("attic", 4)))

    def test_four_hundred(self):
        post = barred()
        for number in range(200):
            post.sent("came", ("bob", number), first=1)
        self.assertEqual((len(post.bars()), post.height()), (200, 199))
        for number in range(200):
            post.answered("came", ("bob", 199 - number))
        self.assertEqual((post.bars(), post.height()), ([], 0))


class SameTest(unittest.TestCase):
    def assert_equal(self, one, two):
        self.assertIs(one == two, True)
        self.assertIs(two == one, True)
        self.assertIs(one != two, False)
        self.assertIs(two != one, False)

    def assert_unlike(self, one, two):
        self.assertIs(one == two, False)
        self.assertIs(two == one, False)
        self.assertIs(one != two, True)
        self.assertIs(two != one, True)

    def test_equal(self):
        self.assert_equal(barred(), barred())
        self.assert_equal(barred(("came", ("bob", 3), 2)), barred(("came", ("bob", 3), 2)))
        post = barred()
        self.assert_equal(post, post)

    def test_whatever_was_done_before(self):
        post = barred(("came", ("bob", 3), 2), ("ask", ("bob", 0), 1))
        post.answered("came", ("bob", 3))
        self.assert_equal(post, barred(("ask", ("bob", 0), 1)))
        one, two = barred(), barred()
        one.turned("attic", 2)
        one.turned("attic", 5)
        two.turned("attic", 5)
        self.assert_equal(one, two)

    def test_last(self):
        # Both come to have the sign ("yard", 9).
        one, two = barred(), barred()
        one.came(3)
        one.left("yard", 4)
        one.turned("yard", 9)
        two.turned("yard", 9)
        self.assertEqual((one.sign(), one.last(), two.last()), (two.sign(), 3, 0))
        self.assert_unlike(one, two)
        one, two = barred(), barred()
        one.came(3)
        two.came(4)
        self.assert_unlike(one, two)

    def test_sign(self):
        for host, number in [("attic", 5), ("yard", 6), ("hall", 6)]:
            one, two = barred(), barred()
            one.turned("attic", 6)
            two.turned(host, number)
            self.assert_unlike(one, two)
        one, two = Post(sample_map(), "yard", "bob"), Post(sample_map(), "yard", "bob")
        two.left("hall", 2)
        self.assertEqual(one.last(), two.last())
        self.assert_unlike(one, two)

    def test_news(self):
        one, two = barred(), barred()
        two.heard("attic", 5)
        self.assert_unlike(one, two)
        one.heard("attic", 4)
        self.assert_unlike(one, two)
        one.heard("attic", 5)
        self.assert_equal(one, two)
        three = barred()
        three.heard("yard", 5)
        self.assert_unlike(one, three)

    def test_bars(self):
        rows = [("came", ("bob", 3), 2), ("ask", ("bob", 0), 1)]
        for other in [rows[:1], rows[1:], rows[::-1], rows + rows[:1], [],
                      [("short", ("bob", 3), 2), rows[1]], [("came", ("ann", 3), 2), rows[1]],
                      [("came", ("bob", 4), 2), rows[1]], [("came", ("bob", 3), 3), rows[1]]]:
            self.assert_unlike(barred(*rows), barred(*other))

    def test_another_host(self):
        self.assert_unlike(Post(sample_map(), "hall", "bob"), Post(sample_map(), "attic", "bob"))
        self.assert_unlike(Post(sample_map(), "hall", "bob"), Post(sample_map(), "yard", "bob"))

    def test_another_walker(self):
        grounds = Map(list(HOSTS), [("bob", "yard"), ("ann", "yard")])
        for host in HOSTS:
            self.assert_unlike(Post(grounds, host, "bob"), Post(grounds, host, "ann"))

    def test_another_map(self):
        for grounds in [Map(["yard", "hall", "attic"], list(WALKERS)),
                        Map(list(HOSTS), [("ann", "hall"), ("bob", "yard")]),
                        Map(list(HOSTS), [("bob", "yard"), ("ann", "attic")]),
                        Map(list(HOSTS), WALKERS + [("cid", "hall")]),
                        Map(HOSTS + ["barn"], list(WALKERS))]:
            self.assert_unlike(Post(sample_map(), "hall", "bob"), Post(grounds, "hall", "bob"))

    def test_anything_else(self):
        for post in (barred(), barred(("came", ("bob", 3), 2))):
            others = [thing for thing in no_texts() if not isinstance(thing, Stranger)]
            for other in others + ["", "here", sample_map(), picture(post), list(picture(post)), Post]:
                self.assert_unlike(post, other)
            self.assertIs(post == Stranger(), False)
            self.assertIs(post != Stranger(), True)


class CopiesTest(unittest.TestCase):
    def full(self):
        """A post none of whose parts is as at first."""
        post = barred(("came", ("bob", 3), 2), ("ask", ("bob", 0), 1))
        post.came(3)
        post.left("attic", 4)
        post.heard("yard", 8)
        return post

    def move(self, post):
        """Change each part of a full post."""
        post.came(5)
        post.left("yard", 6)
        post.heard("attic", 9)
        post.answered("came", ("bob", 3))
        post.sent("short", ("attic", 9), first=6)

    def test_a_copy_stands_alike(self):
        for post in (barred(), Post(sample_map(), "yard", "bob"), self.full()):
            twin = post.copied()
            self.assertIsNot(twin, post)
            self.assertIs(type(twin), Post)
            self.assertEqual(twin, post)
            self.assertEqual(picture(twin), picture(post))

    def test_each_goes_its_own_way(self):
        for at in range(2):
            pair = [self.full()]
            pair.append(pair[0].copied())
            moving, resting = pair[at], pair[1 - at]
            self.move(moving)
            self.assertEqual(resting, self.full())
            self.assertEqual(picture(resting), picture(self.full()))
            self.assertEqual(picture(moving), ("hall", "bob", 5, ("yard", 6), ("attic", 9),
                                               [("ask", ("bob", 0), 1), ("short", ("attic", 9), 6)], 9))

    def test_copies_of_copies(self):
        post = self.full()
        twin = post.copied()
        third = twin.copied()
        self.move(twin)
        third.answered("ask", ("bob", 0))
        self.assertEqual(post, self.full())
        self.assertEqual(third.bars(), [("came", ("bob", 3), 2)])
        self.assertEqual(twin.last(), 5)
        self.assertEqual(third.copied().copied(), third)

    def test_a_copy_refuses_likewise(self):
        twin = self.full().copied()
        with self.assertRaises(NoBar):
            twin.answered("came", ("bob", 4))
        self.assertEqual(twin, self.full())


if __name__ == "__main__":
    unittest.main()
