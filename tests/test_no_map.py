"""What is refused with NoMap, in which order, and with which fields."""

import unittest

from tests.helper import no_texts, shown
from walkbox.errors import NoMap, WalkError
from walkbox.maps import Map

HOSTS = ["hall", "yard"]
WALKERS = [("ann", "hall"), ("bob", "yard")]
NO_NAMES = ["", " ", "Hall", "hall1", "ha ll", "hall\n", "abcdefghi"]


class NoMapTest(unittest.TestCase):
    def assert_refused(self, hosts, walkers, what, who):
        with self.assertRaises(NoMap, msg=f"{what} {who}") as caught:
            Map(hosts, walkers)
        self.assertEqual((caught.exception.what, caught.exception.who), (what, who))
        self.assertIs(type(caught.exception.what), str)
        self.assertIs(type(caught.exception.who), str)

    # Each single refusal.

    def test_hosts_that_are_no_list(self):
        for hosts in no_texts() + ["hall yard", "", tuple(HOSTS), set(HOSTS), {"hall": 1, "yard": 2}]:
            if not isinstance(hosts, list):
                with self.subTest(hosts=shown(hosts)):
                    self.assert_refused(hosts, list(WALKERS), "hosts", "")

    def test_a_host_that_is_no_name(self):
        for thing in no_texts() + NO_NAMES:
            with self.subTest(thing=shown(thing)):
                self.assert_refused([thing, "yard"], list(WALKERS), "name", "0")
                self.assert_refused(["hall", thing], list(WALKERS), "name", "1")
                self.assert_refused(["hall", "yard", "a", "b", "c", thing], list(WALKERS), "name", "5")

    def test_a_host_again(self):
        self.assert_refused(["hall", "hall"], [("ann", "hall")], "again", "hall")
        self.assert_refused(["hall", "yard", "hall"], list(WALKERS), "again", "hall")
        self.assert_refused(["hall", "yard", "attic", "yard"], list(WALKERS), "again", "yard")

    def test_too_few_hosts(self):
        self.assert_refused([], list(WALKERS), "many", "hosts")
        self.assert_refused([], [], "many", "hosts")
        self.assert_refused(["hall"], [("ann", "hall")], "many", "hosts")

    def test_too_many_hosts(self):
        self.assert_refused(list("abcdefg"), [("ann", "a")], "many", "hosts")
        self.assert_refused(list("abcdefghijkl"), [("ann", "a")], "many", "hosts")

    def test_walkers_that_are_no_list(self):
        for walkers in no_texts() + ["ann", "", tuple(WALKERS), set(WALKERS), dict(WALKERS)]:
            if not isinstance(walkers, list):
                with self.subTest(walkers=shown(walkers)):
                    self.assert_refused(list(HOSTS), walkers, "walkers", "")

    def test_a_walker_that_is_no_tuple_of_two(self):
        rows = [thing for thing in no_texts() if not isinstance(thing, tuple)]
        rows += ["ann", "ab", "", ["ann", "hall"], ["ann"], (), ("ann",), ("ann", "hall", "hall"),
                 ("ann", "hall", 1), {"ann": "hall", "bob": "hall"}, {"ann", "hall"}]
        for row in rows:
            with self.subTest(row=shown(row)):
                self.assert_refused(list(HOSTS), [row], "walker", "0")
                self.assert_refused(list(HOSTS), WALKERS + [row], "walker", "2")
                self.assert_refused(list(HOSTS), [row] + WALKERS, "walker", "0")

    def test_a_walker_whose_name_is_none(self):
        for thing in no_texts() + NO_NAMES:
            with self.subTest(thing=shown(thing)):
                self.assert_refused(list(HOSTS), [(thing, "hall")], "name", "0")
                self.assert_refused(list(HOSTS), WALKERS + [(thing, "hall")], "name", "2")

    def test_a_walker_again(self):
        self.assert_refused(list(HOSTS), [("ann", "hall"), ("ann", "yard")], "again", "ann")
        self.assert_refused(list(HOSTS), [("ann", "hall"), ("ann", "hall")], "again", "ann")
        self.assert_refused(list(HOSTS), WALKERS + [("cid", "hall"), ("bob", "hall")], "again", "bob")

    def test_a_walker_with_the_name_of_a_host(self):
        self.assert_refused(list(HOSTS), [("hall", "hall")], "again", "hall")
        self.assert_refused(list(HOSTS), WALKERS + [("yard", "hall")], "again", "yard")

    def test_a_home_that_is_no_host(self):
        for home in no_texts() + NO_NAMES + ["barn", "ann", "bob", ("hall",), ["hall"]]:
            with self.subTest(home=shown(home)):
                self.assert_refused(list(HOSTS), [("ann", home)], "home", "ann")
                self.assert_refused(list(HOSTS), WALKERS + [("cid", home)], "home", "cid")

    def test_no_walkers(self):
        self.assert_refused(list(HOSTS), [], "many", "walkers")

    def test_too_many_walkers(self):
        self.assert_refused(list(HOSTS), [(name, "hall") for name in "abcdef"], "many", "walkers")
        self.assert_refused(list(HOSTS), [(name, "hall") for name in "abcdefghij"], "many", "walkers")

    # Two things wrong at once.

    def test_hosts_ahead_of_walkers(self):
        bad_walkers = [None, [], [3], [("Ann", "hall")], [("ann", "hall")] * 2, [("ann", "barn")],
                       [(name, "hall") for name in "abcdef"], [("hall", "hall")]]
        for walkers in bad_walkers:
            with self.subTest(walkers=walkers):
                self.assert_refused(tuple(HOSTS), walkers, "hosts", "")
                self.assert_refused(["hall", 3], walkers, "name", "1")
                self.assert_refused(["hall", "hall"], walkers, "again", "hall")
                self.assert_refused(["hall"], walkers, "many", "hosts")

    def test_the_first_bad_host_decides(self):
        self.assert_refused([3, "hall", "hall"], list(WALKERS), "name", "0")
        self.assert_refused(["hall", "hall", 3], list(WALKERS), "again", "hall")
        self.assert_refused(["hall", 3, "hall"], list(WALKERS), "name", "1")
        self.assert_refused(["hall", 3, 3], list(WALKERS), "name", "1")
        self.assert_refused(["hall", "yard", "yard", "hall"], list(WALKERS), "again", "yard")
        self.assert_refused(["hall", "yard", "hall", "yard"], list(WALKERS), "again", "hall")

    def test_hosts_again_that_are_no_names(self):
        self.assert_refused(["Hall", "Hall"], list(WALKERS), "name", "0")

    def test_many_hosts_behind_the_single_looks(self):
        self.assert_refused([3], list(WALKERS), "name", "0")
        self.assert_refused(list("abcdef") + [3], list(WALKERS), "name", "6")
        self.assert_refused(list("abcdefg") + [3], list(WALKERS), "name", "7")
        self.assert_refused(list("abcdef") + ["a"], list(WALKERS), "again", "a")
        self.assert_refused(list("abcdefghijkl") + ["l"], list(WALKERS), "again", "l")
        self.assert_refused(list("abcdefghijkl") + [None], list(WALKERS), "name", "12")

    def test_the_first_bad_walker_decides(self):
        tuples_of_two = {
            ("walker", "K"): ("ann",),
            ("name", "K"): ("Ann", "hall"),
            ("again", "hall"): ("hall", "yard"),
            ("home", "cid"): ("cid", "barn"),
        }
        for (what, who), row in tuples_of_two.items():
            for other in tuples_of_two.values():
                with self.subTest(row=row, other=other):
                    self.assert_refused(list(HOSTS), [row, other], what, who.replace("K", "0"))
                    self.assert_refused(list(HOSTS), WALKERS + [row, other], what, who.replace("K", "2"))

    def test_within_one_walker_the_order_is_kept(self):
        self.assert_refused(list(HOSTS), [("Ann", "barn")], "name", "0")
        self.assert_refused(list(HOSTS), [("Ann", "hall", "yard")], "walker", "0")
        self.assert_refused(list(HOSTS), [("hall", "barn")], "again", "hall")
        self.assert_refused(list(HOSTS), [("ann", "hall"), ("ann", "barn")], "again", "ann")
        self.assert_refused(list(HOSTS), [("hall", "hall", "hall")], "walker", "0")

    def test_many_walkers_behind_the_single_looks(self):
        five = [(name, "hall") for name in "abcde"]
        self.assert_refused(list(HOSTS), five + [3], "walker", "5")
        self.assert_refused(list(HOSTS), five + [("F", "hall")], "name", "5")
        self.assert_refused(list(HOSTS), five + [("a", "hall")], "again", "a")
        self.assert_refused(list(HOSTS), five + [("f", "barn")], "home", "f")
        self.assert_refused(list(HOSTS), five + [("f", "hall"), ("f", "hall")], "again", "f")
        many = [(letter + letter, "hall") for letter in "abcdefghijkl"]
        self.assert_refused(list(HOSTS), many + [()], "walker", "12")

    # What else comes of a refusal.

    def test_by_names(self):
        with self.assertRaises(NoMap) as caught:
            Map(walkers=[], hosts=["hall", "hall"])
        self.assertEqual((caught.exception.what, caught.exception.who), ("again", "hall"))

    def test_it_is_a_walk_error(self):
        with self.assertRaises(WalkError):
            Map([], [])

    def test_nothing_is_changed(self):
        hosts, walkers = ["hall", "yard", 3], [("ann", "barn"), ["bob"]]
        for _ in range(2):
            self.assert_refused(hosts, walkers, "name", "2")
            self.assertEqual((hosts, walkers), (["hall", "yard", 3], [("ann", "barn"), ["bob"]]))
        hosts.pop()
        for _ in range(2):
            self.assert_refused(hosts, walkers, "home", "ann")
            self.assertEqual((hosts, walkers), (["hall", "yard"], [("ann", "barn"), ["bob"]]))

    def test_a_name_of_a_home_may_stand_in_several_rows(self):
        self.assertEqual(Map(list(HOSTS), [("ann", "hall"), ("bob", "hall")]).home("bob"), "hall")


if __name__ == "__main__":
    unittest.main()
