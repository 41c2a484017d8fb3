"""Post: last, sign and news, and how they change."""

import unittest

from tests.helper import no_texts, shown
from walkbox.errors import NoSuch, NoTurn
from walkbox.maps import Map
from walkbox.posts import Post

THIRTY = 10 ** 30 - 1
HOSTS = ["hall", "yard", "attic"]
WALKERS = [("bob", "yard"), ("ann", "hall")]

NO_HOSTS = ["bob", "ann", "barn", "", "Hall", "hall ", "hall\n", ("hall",), ["hall"], {"hall": 1}] + no_texts()
NO_WALKERS = ["hall", "yard", "cid", "", "Bob", "bob ", "bob\n", ("bob",), ["bob"], {"bob": 1}] + no_texts()


def sample_map():
    return Map(list(HOSTS), list(WALKERS))


def at_home():
    """Bob's post at his home: last 1, sign "here"."""
    return Post(sample_map(), "yard", "bob")


def elsewhere():
    """Bob's post where he never was: last 0, sign ("yard", 1)."""
    return Post(sample_map(), "hall", "bob")


def picture(post):
    """All that a post tells."""
    return (post.of_host(), post.of_walker(), post.last(), post.sign(), post.news(), post.bars(), post.height())


class PostCase(unittest.TestCase):
    def assert_state(self, post, last, sign, news=None):
        for _ in range(2):
            self.assertEqual((post.last(), post.sign(), post.news()), (last, sign, news))

    def assert_no_turn(self, post, call):
        """Refused with NoTurn of the post's names; nothing is changed."""
        before, twin = picture(post), post.copied()
        for _ in range(2):
            with self.assertRaises(NoTurn) as caught:
                call()
            self.assertEqual((caught.exception.host, caught.exception.walker), (post.of_host(), post.of_walker()))
            self.assertEqual(picture(post), before)
            self.assertEqual(post, twin)

    def assert_no_such(self, post, call, who):
        """Refused with NoSuch; nothing is changed."""
        before, twin = picture(post), post.copied()
        for _ in range(2):
            with self.assertRaises(NoSuch, msg=shown(who)) as caught:
                call()
            self.assertIs(caught.exception.who, who)
            self.assertEqual(picture(post), before)
            self.assertEqual(post, twin)


class MadeTest(PostCase):
    def test_at_the_home(self):
        post = at_home()
        self.assertEqual(picture(post), ("yard", "bob", 1, "here", None, [], 0))
        self.assert_state(Post(sample_map(), "hall", "ann"), 1, "here")

    def test_elsewhere(self):
        self.assertEqual(picture(elsewhere()), ("hall", "bob", 0, ("yard", 1), None, [], 0))
        self.assert_state(Post(sample_map(), "attic", "bob"), 0, ("yard", 1))
        self.assert_state(Post(sample_map(), "attic", "ann"), 0, ("hall", 1))
        self.assert_state(Post(sample_map(), "yard", "ann"), 0, ("hall", 1))

    def test_its_names(self):
        for host in HOSTS:
            for walker in ("ann", "bob"):
                post = Post(sample_map(), host, walker)
                self.assertEqual((post.of_host(), post.of_walker()), (host, walker))

    def test_by_names(self):
        self.assertEqual(Post(walker="bob", host="yard", grounds=sample_map()), at_home())
        self.assertEqual(Post(sample_map(), host="hall", walker="bob"), elsewhere())

    def assert_refused(self, host, walker, who):
        with self.assertRaises(NoSuch, msg=shown(who)) as caught:
            Post(sample_map(), host, walker)
        self.assertIs(caught.exception.who, who)

    def test_no_host(self):
        for thing in NO_HOSTS:
            self.assert_refused(thing, "bob", thing)

    def test_no_walker(self):
        for thing in NO_WALKERS:
            self.assert_refused("hall", thing, thing)

    def test_host_ahead_of_walker(self):
        for thing in NO_HOSTS:
            self.assert_refused(thing, "cid", thing)
        for thing in NO_WALKERS:
            self.assert_refused("barn", thing, "barn")

    def test_a_walker_and_a_host_exchanged(self):
        self.assert_refused("bob", "hall", "bob")

    def test_lists_of_the_map_changed_behind(self):
        hosts, walkers = list(HOSTS), list(WALKERS)
        post = Post(Map(hosts, walkers), "yard", "bob")
        hosts.reverse()
        walkers.clear()
        self.assertEqual(post, at_home())
        post.left("attic", 2)
        self.assert_state(post, 1, ("attic", 2))

    def test_the_map_is_not_changed(self):
        grounds = sample_map()
        post = Post(grounds, "yard", "bob")
        post.left("hall", 2)
        post.sent("came", ("bob", 3), first=2)
        self.assertEqual(grounds, sample_map())

    def test_no_post_knows_of_another_one(self):
        grounds = sample_map()
        one, two = Post(grounds, "yard", "bob"), Post(grounds, "yard", "bob")
        one.left("hall", 2)
        one.heard("hall", 2)
        one.sent("came", ("bob", 3), first=2)
        self.assertEqual(picture(two), picture(at_home()))
        self.assertEqual(picture(Post(grounds, "yard", "bob")), picture(at_home()))


class CameTest(PostCase):
    def test_above_the_number_of_the_sign(self):
        for stay in (2, 3, 100, THIRTY):
            post = elsewhere()
            self.assertEqual(post.came(stay), ("yard", 1))
            self.assert_state(post, stay, "here")

    def test_at_and_below_the_number_of_the_sign(self):
        post = elsewhere()
        self.assert_no_turn(post, lambda: post.came(1))
        self.assert_no_turn(post, lambda: post.came(0))
        post.turned("attic", 7)
        for stay in (0, 1, 2, 6, 7):
            self.assert_no_turn(post, lambda: post.came(stay))
        self.assertEqual(post.came(8), ("attic", 7))
        self.assert_state(post, 8, "here")

    def test_here_already(self):
        post = at_home()
        for stay in (0, 1, 2, 3, THIRTY):
            self.assert_no_turn(post, lambda: post.came(stay))
        post = elsewhere()
        post.came(4)
        for stay in (3, 4, 5, 6):
            self.assert_no_turn(post, lambda: post.came(stay))

    def test_told_is_the_sign_that_was(self):
        post = at_home()
        post.left("attic", 2)
        self.assert_no_turn(post, lambda: post.came(2))
        self.assertEqual(post.came(stay=3), ("attic", 2))
        post.left("hall", 4)
        post.turned("attic", 9)
        told = post.came(10)
        self.assertEqual(told, ("attic", 9))
        self.assertIs(type(told), tuple)
        self.assert_state(post, 10, "here")

    def test_news_and_bars_stay(self):
        post = elsewhere()
        post.heard("attic", 5)
        post.sent("came", ("bob", 4), first=1)
        post.came(4)
        self.assertEqual(picture(post), ("hall", "bob", 4, "here", ("attic", 5), [("came", ("bob", 4), 1)], 4))

    def test_great_numbers(self):
        post = elsewhere()
        post.turned("attic", THIRTY - 1)
        self.assert_no_turn(post, lambda: post.came(THIRTY - 1))
        self.assertEqual(post.came(THIRTY), ("attic", THIRTY - 1))
        self.assert_state(post, THIRTY, "here")


class LeftTest(PostCase):
    def test_left(self):
        for goal in ("hall", "attic"):
            post = at_home()
            self.assertIs(post.left(goal, 2), None)
            self.assert_state(post, 1, (goal, 2))
            self.assertIs(type(post.sign()), tuple)

    def test_by_names(self):
        post = at_home()
        post.left(stay=2, goal="attic")
        self.assert_state(post, 1, ("attic", 2))

    def test_from_another_host(self):
        post = elsewhere()
        post.came(5)
        post.left("yard", 6)
        self.assert_state(post, 5, ("yard", 6))
        post.came(9)
        self.assert_no_turn(post, lambda: post.left("yard", 7))
        self.assert_no_turn(post, lambda: post.left("yard", 6))
        post.left("attic", 10)
        self.assert_state(post, 9, ("attic", 10))

    def test_the_stay_is_last_and_one(self):
        post = at_home()
        for stay in (0, 1, 3, 4, THIRTY):
            self.assert_no_turn(post, lambda: post.left("hall", stay))
        post = elsewhere()
        post.came(5)
        for stay in (1, 2, 4, 5, 7):
            self.assert_no_turn(post, lambda: post.left("yard", stay))

    def test_not_here(self):
        post = elsewhere()
        for stay in (0, 1, 2):
            self.assert_no_turn(post, lambda: post.left("yard", stay))
        post = at_home()
        post.left("hall", 2)
        for stay in (1, 2, 3):
            self.assert_no_turn(post, lambda: post.left("hall", stay))
            self.assert_no_turn(post, lambda: post.left("attic", stay))

    def test_no_other_host(self):
        for thing in NO_HOSTS + ["yard"]:
            post = at_home()
            self.assert_no_such(post, lambda: post.left(thing, 2), thing)
        for thing in NO_HOSTS + ["hall"]:
            post = elsewhere()
            post.came(4)
            self.assert_no_such(post, lambda: post.left(thing, 5), thing)

    def test_no_such_ahead_of_no_turn(self):
        for thing in NO_HOSTS + ["yard"]:
            post = at_home()
            self.assert_no_such(post, lambda: post.left(thing, 3), thing)
            self.assert_no_such(post, lambda: post.left(stay=1, goal=thing), thing)
            post.left("hall", 2)
            self.assert_no_such(post, lambda: post.left(thing, 2), thing)
            self.assert_no_such(post, lambda: post.left(thing, 3), thing)

    def test_news_and_bars_stay(self):
        post = at_home()
        post.heard("attic", 5)
        post.sent("ask", ("bob", 0), first=1)
        post.left("hall", 2)
        self.assertEqual(picture(post), ("yard", "bob", 1, ("hall", 2), ("attic", 5), [("ask", ("bob", 0), 1)], 0))

    def test_great_numbers(self):
        post = elsewhere()
        post.came(THIRTY - 1)
        self.assert_no_turn(post, lambda: post.left("yard", THIRTY - 1))
        post.left("yard", THIRTY)
        self.assert_state(post, THIRTY - 1, ("yard", THIRTY))


class TurnedTest(PostCase):
    def test_above_its_own_number(self):
        for number in (2, 3, 100, THIRTY):
            post = elsewhere()
            self.assertIs(post.turned("attic", number), True)
            self.assert_state(post, 0, ("attic", number))

    def test_at_and_below_its_own_number(self):
        post = elsewhere()
        for number in (0, 1):
            self.assertIs(post.turned("attic", number), False)
            self.assert_state(post, 0, ("yard", 1))
        post.turned("attic", 7)
        for number in (1, 6, 7):
            self.assertIs(post.turned("yard", number), False)
            self.assert_state(post, 0, ("attic", 7))
        self.assertIs(post.turned("yard", 8), True)
        self.assert_state(post, 0, ("yard", 8))

    def test_here(self):
        post = at_home()
        for number in (0, 1, 2, 3, THIRTY):
            self.assertIs(post.turned("hall", number), False)
            self.assertEqual(picture(post), picture(at_home()))

    def test_whichever_host(self):
        for host in HOSTS:
            post = elsewhere()
            self.assertIs(post.turned(host, 2), True)
            self.assert_state(post, 0, (host, 2))

    def test_by_names(self):
        post = elsewhere()
        self.assertIs(post.turned(number=2, host="attic"), True)
        self.assert_state(post, 0, ("attic", 2))
        self.assertIs(post.turned(number=2, host="yard"), False)

    def test_behind_leaving(self):
        post = at_home()
        post.left("hall", 2)
        self.assertIs(post.turned("attic", 2), False)
        self.assertIs(post.turned("attic", 3), True)
        self.assert_state(post, 1, ("attic", 3))

    def test_the_rest_stays(self):
        post = elsewhere()
        post.heard("attic", 5)
        post.sent("short", ("attic", 5), first=1)
        post.turned("attic", 5)
        self.assertEqual(picture(post), ("hall", "bob", 0, ("attic", 5), ("attic", 5), [("short", ("attic", 5), 1)], 5))


class HeardTest(PostCase):
    def test_where_there_were_none(self):
        for stay in (1, 2, THIRTY):
            for post in (at_home(), elsewhere()):
                sign, last = post.sign(), post.last()
                self.assertIs(post.heard("attic", stay), None)
                self.assert_state(post, last, sign, ("attic", stay))
                self.assertIs(type(post.news()), tuple)

    def test_above_at_and_below_theirs(self):
        post = elsewhere()
        post.heard("attic", 5)
        for stay in (1, 4, 5):
            self.assertIs(post.heard("yard", stay), None)
            self.assert_state(post, 0, ("yard", 1), ("attic", 5))
        post.heard("yard", 6)
        self.assert_state(post, 0, ("yard", 1), ("yard", 6))
        post.heard("hall", THIRTY)
        self.assert_state(post, 0, ("yard", 1), ("hall", THIRTY))
        post.heard("yard", THIRTY - 1)
        self.assert_state(post, 0, ("yard", 1), ("hall", THIRTY))

    def test_the_same_host_later(self):
        post = elsewhere()
        post.heard("attic", 5)
        post.heard("attic", 6)
        self.assertEqual(post.news(), ("attic", 6))

    def test_by_names(self):
        post = elsewhere()
        post.heard(stay=3, host="attic")
        self.assertEqual(post.news(), ("attic", 3))

    def test_bars_stay(self):
        post = elsewhere()
        post.sent("ask", ("bob", 0), first=1)
        post.heard("attic", 5)
        self.assertEqual(post.bars(), [("ask", ("bob", 0), 1)])


if __name__ == "__main__":
    unittest.main()
