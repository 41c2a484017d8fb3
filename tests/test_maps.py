"""Map: what it tells, equality, length and repr."""

import unittest

from tests.helper import Stranger, no_texts, shown
from walkbox.errors import NoSuch
from walkbox.maps import Map

HOSTS = ["hall", "yard", "attic"]
WALKERS = [("bob", "yard"), ("ann", "hall"), ("cid", "yard")]


def sample():
    """A map, whose orders are not those of the alphabet."""
    return Map(list(HOSTS), list(WALKERS))


class TellingTest(unittest.TestCase):
    def test_hosts_and_walkers(self):
        grounds = sample()
        self.assertEqual(grounds.hosts(), HOSTS)
        self.assertEqual(grounds.walkers(), ["bob", "ann", "cid"])
        self.assertIs(type(grounds.hosts()), list)
        self.assertIs(type(grounds.walkers()), list)

    def test_made_by_names(self):
        grounds = Map(walkers=list(WALKERS), hosts=list(HOSTS))
        self.assertEqual(grounds, sample())
        self.assertEqual(Map(list(HOSTS), walkers=list(WALKERS)), sample())

    def test_least_and_most(self):
        least = Map(["a", "b"], [("c", "b")])
        self.assertEqual((least.hosts(), least.walkers(), len(least)), (["a", "b"], ["c"], 2))
        names = list("fedcba")
        walkers = [(name, "f") for name in "zyxwv"]
        most = Map(names, walkers)
        self.assertEqual((most.hosts(), most.walkers(), len(most)), (names, list("zyxwv"), 6))

    def test_long_names(self):
        grounds = Map(["abcdefgh", "bcdefghi"], [("cdefghij", "bcdefghi")])
        self.assertEqual(grounds.home("cdefghij"), "bcdefghi")

    def test_home(self):
        grounds = sample()
        self.assertEqual(grounds.home("ann"), "hall")
        self.assertEqual(grounds.home("bob"), "yard")
        self.assertEqual(grounds.home(walker="cid"), "yard")

    def test_others(self):
        grounds = sample()
        self.assertEqual(grounds.others("hall"), ["yard", "attic"])
        self.assertEqual(grounds.others("yard"), ["hall", "attic"])
        self.assertEqual(grounds.others(host="attic"), ["hall", "yard"])
        self.assertIs(type(grounds.others("hall")), list)

    def test_has_host(self):
        grounds = sample()
        for name in HOSTS:
            self.assertIs(grounds.has_host(name), True)
        for name in ("ann", "bob", "cid", "barn", "", "Hall", "hall ", "hall\n", "hal"):
            self.assertIs(grounds.has_host(name), False)
        self.assertIs(grounds.has_host(name="hall"), True)
        self.assertIs(grounds.has_host(name="ann"), False)

    def test_has_walker(self):
        grounds = sample()
        for name in ("ann", "bob", "cid"):
            self.assertIs(grounds.has_walker(name), True)
        for name in HOSTS + ["dan", "", "Ann", "ann ", "ann\n", "an"]:
            self.assertIs(grounds.has_walker(name), False)
        self.assertIs(grounds.has_walker(name="ann"), True)
        self.assertIs(grounds.has_walker(name="hall"), False)

    def test_has_of_what_is_no_text(self):
        grounds = sample()
        for thing in no_texts() + [("ann", "hall")]:
            self.assertIs(grounds.has_host(thing), False, shown(thing))
            self.assertIs(grounds.has_walker(thing), False, shown(thing))

    def refused_home(self, thing):
        with self.assertRaises(NoSuch) as caught:
            sample().home(thing)
        self.assertIs(caught.exception.who, thing)

    def refused_others(self, thing):
        with self.assertRaises(NoSuch) as caught:
            sample().others(thing)
        self.assertIs(caught.exception.who, thing)

    def test_home_of_no_walker(self):
        for thing in ["hall", "yard", "dan", "", "Ann", "ann "] + no_texts() + [("ann", "hall")]:
            self.refused_home(thing)

    def test_others_of_no_host(self):
        for thing in ["ann", "bob", "barn", "", "Hall", "hall "] + no_texts() + [("hall",)]:
            self.refused_others(thing)

    def test_refused_by_name(self):
        with self.assertRaises(NoSuch) as caught:
            sample().home(walker=["ann"])
        self.assertEqual(caught.exception.who, ["ann"])
        with self.assertRaises(NoSuch) as caught:
            sample().others(host={"hall": 1})
        self.assertEqual(caught.exception.who, {"hall": 1})

    def test_asked_again(self):
        grounds = sample()
        for _ in range(3):
            self.assertEqual(grounds.hosts(), HOSTS)
            self.assertEqual(grounds.walkers(), ["bob", "ann", "cid"])
            self.assertEqual(grounds.home("ann"), "hall")
            self.assertEqual(grounds.others("yard"), ["hall", "attic"])
            with self.assertRaises(NoSuch):
                grounds.home("yard")


class OwnListsTest(unittest.TestCase):
    def assert_untouched(self, grounds):
        self.assertEqual(grounds.hosts(), HOSTS)
        self.assertEqual(grounds.walkers(), ["bob", "ann", "cid"])
        self.assertEqual(grounds.home("ann"), "hall")
        self.assertEqual(grounds.others("hall"), ["yard", "attic"])
        self.assertIs(grounds.has_host("barn"), False)
        self.assertIs(grounds.has_walker("dan"), False)
        self.assertEqual(len(grounds), 3)
        self.assertEqual(grounds, sample())
        self.assertEqual(repr(grounds), repr(sample()))

    def test_handed_in_is_not_changed(self):
        hosts, walkers = list(HOSTS), list(WALKERS)
        grounds = Map(hosts, walkers)
        grounds.hosts()
        grounds.others("hall")
        self.assertEqual(hosts, ["hall", "yard", "attic"])
        self.assertEqual(walkers, [("bob", "yard"), ("ann", "hall"), ("cid", "yard")])

    def test_handed_in_and_then_changed(self):
        hosts, walkers = list(HOSTS), list(WALKERS)
        grounds = Map(hosts, walkers)
        hosts.append("barn")
        walkers.append(("dan", "barn"))
        self.assert_untouched(grounds)
        hosts[0] = "cellar"
        walkers[1] = ("ann", "cellar")
        self.assert_untouched(grounds)
        hosts.clear()
        walkers.clear()
        self.assert_untouched(grounds)

    def test_told_and_then_changed(self):
        grounds = sample()
        grounds.hosts().append("barn")
        grounds.hosts().reverse()
        grounds.walkers().append("dan")
        grounds.walkers().clear()
        grounds.others("hall").append("barn")
        grounds.others("hall").clear()
        self.assert_untouched(grounds)

    def test_no_two_told_lists_are_one(self):
        grounds = sample()
        self.assertIsNot(grounds.hosts(), grounds.hosts())
        self.assertIsNot(grounds.walkers(), grounds.walkers())
        self.assertIsNot(grounds.others("hall"), grounds.others("hall"))

    def test_told_is_not_what_was_handed_in(self):
        hosts = list(HOSTS)
        grounds = Map(hosts, list(WALKERS))
        self.assertIsNot(grounds.hosts(), hosts)

    def test_no_map_knows_of_another_one(self):
        hosts, walkers = list(HOSTS), list(WALKERS)
        one, two = Map(hosts, walkers), Map(hosts, walkers)
        one.hosts().clear()
        other = Map(["east", "west"], [("eve", "west")])
        self.assert_untouched(one)
        self.assert_untouched(two)
        self.assertEqual(other.hosts(), ["east", "west"])
        self.assertEqual(other.walkers(), ["eve"])


class SameTest(unittest.TestCase):
    def assert_unlike(self, other):
        grounds = sample()
        self.assertIs(grounds == other, False)
        self.assertIs(grounds != other, True)

    def test_equal(self):
        self.assertIs(sample() == sample(), True)
        self.assertIs(sample() != sample(), False)
        grounds = sample()
        self.assertIs(grounds == grounds, True)

    def test_another_order(self):
        self.assert_unlike(Map(["yard", "hall", "attic"], list(WALKERS)))
        self.assert_unlike(Map(list(HOSTS), [("ann", "hall"), ("bob", "yard"), ("cid", "yard")]))

    def test_another_home(self):
        self.assert_unlike(Map(list(HOSTS), [("bob", "yard"), ("ann", "attic"), ("cid", "yard")]))

    def test_another_name(self):
        self.assert_unlike(Map(["hall", "yard", "barn"], list(WALKERS)))
        self.assert_unlike(Map(list(HOSTS), [("bob", "yard"), ("ann", "hall"), ("dan", "yard")]))

    def test_more_and_fewer(self):
        self.assert_unlike(Map(HOSTS + ["barn"], list(WALKERS)))
        self.assert_unlike(Map(["hall", "yard"], list(WALKERS)))
        self.assert_unlike(Map(list(HOSTS), WALKERS + [("dan", "hall")]))
        self.assert_unlike(Map(list(HOSTS), WALKERS[:2]))

    def test_anything_else(self):
        grounds = sample()
        others = [grounds.hosts(), (grounds.hosts(), list(WALKERS)), repr(grounds), len(grounds)]
        for other in others + no_texts() + ["", "hall", Stranger(), Map]:
            self.assert_unlike(other)


class LengthTest(unittest.TestCase):
    def test_length_is_that_of_the_hosts(self):
        for many in range(2, 7):
            for walkers in range(1, 6):
                hosts = list("abcdef")[:many]
                rows = [(name, "b") for name in "vwxyz"[:walkers]]
                self.assertEqual(len(Map(hosts, rows)), many)


class ShownTest(unittest.TestCase):
    def test_repr(self):
        grounds = Map(["hall", "yard"], [("ann", "hall"), ("bob", "yard")])
        self.assertEqual(repr(grounds), "Map(['hall', 'yard'], [('ann', 'hall'), ('bob', 'yard')])")
        one = Map(["b", "a"], [("z", "a")])
        self.assertEqual(repr(one), "Map(['b', 'a'], [('z', 'a')])")

    def test_repr_is_how_it_is_made(self):
        self.assertEqual(eval(repr(sample()), {"Map": Map}), sample())


if __name__ == "__main__":
    unittest.main()
