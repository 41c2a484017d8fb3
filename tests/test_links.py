"""Links: entries in order, refusals, busy links, equality, length, copies."""

import unittest

from tests.helper import Stranger, no_texts, shown
from walkbox.errors import NoSuch, Still
from walkbox.links import Links
from walkbox.maps import Map

THIRTY = 10 ** 30 - 1
HOSTS = ["hall", "yard", "attic"]
WALKERS = [("bob", "yard"), ("ann", "hall")]
PAIRS = [("hall", "yard"), ("hall", "attic"), ("yard", "hall"), ("yard", "attic"),
         ("attic", "hall"), ("attic", "yard")]

LETTER = ("letter", "ann", "bob", "hi7")
OTHER = ("letter", "ann", "bob", "hi8")
ECHO = ("echo", "bob", "hall", "came", ("bob", 3))
ANSWER = ("answer", "bob", "came", ("bob", 3), ("yard", 4))
GOER = ("goer", "bob", 3, ("ann",))

NO_HOSTS = ["bob", "ann", "barn", "", "Hall", "hall ", "hall\n", ("hall",), ["hall"], {"hall": 1}] + no_texts()


def sample_map():
    """A map, whose orders are not those of the alphabet."""
    return Map(list(HOSTS), list(WALKERS))


def sample():
    return Links(sample_map())


def filled(rows, grounds=None):
    """Links with such entries: tuples (source, goal, thing, number)."""
    links = Links(grounds or sample_map())
    for source, goal, thing, number in rows:
        links.put(source, goal, thing, number=number)
    return links


ROWS = [("attic", "hall", GOER, 0), ("hall", "attic", LETTER, 2), ("hall", "attic", ECHO, 1),
        ("hall", "yard", ANSWER, 0)]


def picture(links):
    """All that links tell."""
    return [links.entries(source, goal) for source, goal in PAIRS], links.busy(), len(links)


class EntriesTest(unittest.TestCase):
    def test_none_at_first(self):
        links = sample()
        for source, goal in PAIRS:
            self.assertEqual(links.entries(source, goal), [])
        self.assertEqual(links.busy(), [])
        self.assertEqual(len(links), 0)

    def test_first_in_first_out(self):
        links = sample()
        things = [LETTER, GOER, ECHO, ANSWER, OTHER]
        for number, thing in enumerate(things):
            self.assertIs(links.put("hall", "yard", thing, number=number), None)
        self.assertEqual(links.entries("hall", "yard"), [(thing, k) for k, thing in enumerate(things)])
        for number, thing in enumerate(things):
            self.assertEqual(links.entries("hall", "yard"),
                             [(left, number + k) for k, left in enumerate(things[number:])])
            self.assertEqual(links.take("hall", "yard"), (thing, number))
        self.assertEqual(links.entries("hall", "yard"), [])

    def test_each_link_by_itself(self):
        links = sample()
        for turn in range(2):
            for number, (source, goal) in enumerate(PAIRS):
                links.put(source, goal, LETTER, number=10 * turn + number)
        for number, (source, goal) in enumerate(PAIRS):
            self.assertEqual(links.entries(source, goal), [(LETTER, number), (LETTER, 10 + number)])
        for number, (source, goal) in list(enumerate(PAIRS))[::-1]:
            self.assertEqual(links.take(source, goal), (LETTER, number))
        for number, (source, goal) in enumerate(PAIRS):
            self.assertEqual(links.entries(source, goal), [(LETTER, 10 + number)])

    def test_there_and_back_are_two_links(self):
        links = filled([("hall", "yard", LETTER, 1)])
        self.assertEqual(links.entries("hall", "yard"), [(LETTER, 1)])
        self.assertEqual(links.entries("yard", "hall"), [])
        with self.assertRaises(Still):
            links.take("yard", "hall")

    def test_put_and_taken_by_turns(self):
        links = filled([("hall", "yard", LETTER, 1), ("hall", "yard", ECHO, 2)])
        self.assertEqual(links.take("hall", "yard"), (LETTER, 1))
        links.put("hall", "yard", GOER, number=0)
        self.assertEqual(links.take("hall", "yard"), (ECHO, 2))
        links.put("hall", "yard", ANSWER)
        self.assertEqual(links.take("hall", "yard"), (GOER, 0))
        self.assertEqual(links.take("hall", "yard"), (ANSWER, 0))

    def test_numbers_do_not_sort(self):
        links = sample()
        numbers = [5, 0, THIRTY, 1, 1, 7, 0]
        for number in numbers:
            links.put("yard", "attic", LETTER, number=number)
        self.assertEqual([number for _, number in links.entries("yard", "attic")], numbers)
        self.assertEqual([links.take("yard", "attic")[1] for _ in numbers], numbers)

    def test_without_a_number_it_is_nought(self):
        links = sample()
        links.put("hall", "yard", LETTER)
        links.put("hall", "yard", LETTER, number=0)
        links.put("hall", "yard", LETTER, number=1)
        self.assertEqual(links.entries("hall", "yard"), [(LETTER, 0), (LETTER, 0), (LETTER, 1)])

    def test_the_same_thing_twice(self):
        links = filled([("hall", "yard", LETTER, 1), ("hall", "yard", LETTER, 1)])
        self.assertEqual(len(links), 2)
        self.assertEqual(links.entries("hall", "yard"), [(LETTER, 1), (LETTER, 1)])
        self.assertEqual(links.take("hall", "yard"), (LETTER, 1))
        self.assertEqual(links.take("hall", "yard"), (LETTER, 1))
        with self.assertRaises(Still):
            links.take("hall", "yard")

    def test_kinds_of_what_is_told(self):
        links = filled(ROWS)
        self.assertIs(type(links.entries("hall", "yard")), list)
        self.assertIs(type(links.entries("hall", "yard")[0]), tuple)
        self.assertIs(type(links.busy()), list)
        self.assertIs(type(links.busy()[0]), tuple)
        self.assertIs(type(links.take("hall", "yard")), tuple)

    def test_by_names(self):
        links = Links(grounds=sample_map())
        links.put(thing=LETTER, number=3, goal="yard", source="hall")
        links.put("hall", "yard", thing=ECHO)
        self.assertEqual(links.entries(goal="yard", source="hall"), [(LETTER, 3), (ECHO, 0)])
        self.assertEqual(links.take(goal="yard", source="hall"), (LETTER, 3))
        with self.assertRaises(Still) as caught:
            links.take(goal="hall", source="yard")
        self.assertEqual((caught.exception.source, caught.exception.goal), ("yard", "hall"))

    def test_the_number_by_its_name_alone(self):
        links = sample()
        with self.assertRaises(TypeError):
            links.put("hall", "yard", LETTER, 3)
        self.assertEqual(len(links), 0)

    def test_four_hundred(self):
        links = sample()
        for number in range(400):
            links.put("hall", "yard", LETTER, number=number)
        self.assertEqual(len(links), 400)
        self.assertEqual([links.take("hall", "yard")[1] for _ in range(400)], list(range(400)))


class BusyTest(unittest.TestCase):
    def test_in_the_order_of_the_map(self):
        links = sample()
        for source, goal in [PAIRS[at] for at in (5, 2, 0, 4, 1, 3)]:
            links.put(source, goal, LETTER)
        self.assertEqual(links.busy(), PAIRS)

    def test_in_the_order_of_another_map(self):
        links = Links(Map(["yard", "attic", "hall"], list(WALKERS)))
        for source, goal in PAIRS:
            links.put(source, goal, LETTER)
        self.assertEqual(links.busy(), [("yard", "attic"), ("yard", "hall"), ("attic", "yard"),
                                        ("attic", "hall"), ("hall", "yard"), ("hall", "attic")])

    def test_only_those_with_entries(self):
        links = filled(ROWS)
        self.assertEqual(links.busy(), [("hall", "yard"), ("hall", "attic"), ("attic", "hall")])
        links.take("hall", "attic")
        self.assertEqual(links.busy(), [("hall", "yard"), ("hall", "attic"), ("attic", "hall")])
        links.take("hall", "attic")
        self.assertEqual(links.busy(), [("hall", "yard"), ("attic", "hall")])
        links.put("hall", "attic", LETTER)
        self.assertEqual(links.busy(), [("hall", "yard"), ("hall", "attic"), ("attic", "hall")])

    def test_six_hosts(self):
        names = list("fbdace")
        links = Links(Map(names, [("z", "a")]))
        wanted = [(source, goal) for source in names for goal in names if goal != source]
        for source, goal in sorted(wanted):
            links.put(source, goal, LETTER)
        self.assertEqual(links.busy(), wanted)
        self.assertEqual(len(links), 30)


class RefusedTest(unittest.TestCase):
    def assert_refused(self, source, goal, who):
        """Each of put, take and entries is refused so, and changes nothing."""
        links = filled(ROWS)
        before = picture(links)
        for call in (lambda: links.put(source, goal, LETTER), lambda: links.put(source, goal, LETTER, number=3),
                     lambda: links.take(source, goal), lambda: links.entries(source, goal),
                     lambda: links.take(source=source, goal=goal)):
            for _ in range(2):
                with self.assertRaises(NoSuch, msg=f"{shown(source)} {shown(goal)}") as caught:
                    call()
                self.assertIs(caught.exception.who, who)
                self.assertEqual(picture(links), before)
        self.assertEqual(links, filled(ROWS))

    def test_source(self):
        for thing in NO_HOSTS:
            self.assert_refused(thing, "yard", thing)

    def test_goal(self):
        for thing in NO_HOSTS:
            self.assert_refused("hall", thing, thing)

    def test_source_ahead_of_goal(self):
        for thing in NO_HOSTS:
            self.assert_refused(thing, "barn", thing)
            self.assert_refused("barn", thing, "barn")
            self.assert_refused(thing, thing, thing)

    def test_a_goal_that_is_the_source(self):
        for host in HOSTS:
            self.assert_refused(host, host, host)

    def test_still(self):
        links = filled(ROWS)
        before = picture(links)
        for source, goal in [("yard", "hall"), ("yard", "attic"), ("attic", "yard")]:
            for _ in range(2):
                with self.assertRaises(Still) as caught:
                    links.take(source, goal)
                self.assertEqual((caught.exception.source, caught.exception.goal), (source, goal))
                self.assertEqual(picture(links), before)

    def test_still_behind_the_last(self):
        links = filled(ROWS)
        links.take("attic", "hall")
        with self.assertRaises(Still) as caught:
            links.take("attic", "hall")
        self.assertEqual((caught.exception.source, caught.exception.goal), ("attic", "hall"))
        links.put("attic", "hall", ECHO)
        self.assertEqual(links.take("attic", "hall"), (ECHO, 0))

    def test_no_such_ahead_of_still(self):
        for source, goal, who in [("barn", "hall", "barn"), ("hall", "barn", "barn"), ("hall", "hall", "hall")]:
            with self.assertRaises(NoSuch) as caught:
                sample().take(source, goal)
            self.assertEqual(caught.exception.who, who)

    def test_entries_of_an_empty_link_are_not_refused(self):
        self.assertEqual(sample().entries("yard", "hall"), [])


class OwnListsTest(unittest.TestCase):
    def test_told_and_then_changed(self):
        links = filled(ROWS)
        before = picture(links)
        links.entries("hall", "attic").clear()
        links.entries("hall", "attic").append((LETTER, 9))
        links.entries("yard", "hall").append((LETTER, 9))
        links.busy().clear()
        links.busy().append(("yard", "hall"))
        self.assertEqual(picture(links), before)
        self.assertEqual(links, filled(ROWS))

    def test_what_was_told_stays(self):
        links = filled(ROWS)
        entries, busy = links.entries("hall", "attic"), links.busy()
        links.take("hall", "attic")
        links.take("hall", "yard")
        links.put("yard", "hall", LETTER)
        self.assertEqual(entries, [(LETTER, 2), (ECHO, 1)])
        self.assertEqual(busy, [("hall", "yard"), ("hall", "attic"), ("attic", "hall")])

    def test_no_two_told_lists_are_one(self):
        links = filled(ROWS)
        self.assertIsNot(links.entries("hall", "attic"), links.entries("hall", "attic"))
        self.assertIsNot(links.entries("yard", "hall"), links.entries("yard", "hall"))
        self.assertIsNot(links.busy(), links.busy())

    def test_asked_again(self):
        links = filled(ROWS)
        self.assertEqual(picture(links), picture(links))

    def test_the_map_is_not_changed(self):
        grounds = sample_map()
        links = filled(ROWS, grounds)
        links.take("hall", "attic")
        self.assertEqual(grounds, sample_map())

    def test_lists_of_the_map_changed_behind(self):
        hosts, walkers = list(HOSTS), list(WALKERS)
        links = filled(ROWS, Map(hosts, walkers))
        hosts.reverse()
        walkers.clear()
        self.assertEqual(links, filled(ROWS))
        self.assertEqual(picture(links), picture(filled(ROWS)))

    def test_no_links_know_of_others(self):
        grounds = sample_map()
        one, two = Links(grounds), Links(grounds)
        one.put("hall", "yard", LETTER)
        self.assertEqual((len(one), len(two)), (1, 0))
        self.assertEqual(two.busy(), [])
        self.assertEqual(len(Links(grounds)), 0)


class SameTest(unittest.TestCase):
    def assert_equal(self, one, two):
        self.assertIs(one == two, True)
        self.assertIs(two == one, True)
        self.assertIs(one != two, False)
        self.assertIs(two != one, False)

    def assert_unlike(self, one, two):
        self.assertIs(one == two, False)
        self.assertIs(two == one, False)
        self.assertIs(one != two, True)
        self.assertIs(two != one, True)

    def test_equal(self):
        self.assert_equal(sample(), sample())
        self.assert_equal(filled(ROWS), filled(ROWS))
        links = filled(ROWS)
        self.assert_equal(links, links)

    def test_put_in_another_order_on_other_links(self):
        self.assert_equal(filled(ROWS), filled([ROWS[1], ROWS[3], ROWS[2], ROWS[0]]))

    def test_whatever_was_put_and_taken_before(self):
        links = filled([("hall", "attic", OTHER, 7), ("yard", "hall", OTHER, 7)] + ROWS)
        self.assert_unlike(links, filled(ROWS))
        links.take("hall", "attic")
        links.take("yard", "hall")
        self.assert_equal(links, filled(ROWS))

    def test_another_map(self):
        for grounds in [Map(["yard", "hall", "attic"], list(WALKERS)),
                        Map(list(HOSTS), [("ann", "hall"), ("bob", "yard")]),
                        Map(list(HOSTS), [("bob", "attic"), ("ann", "hall")]),
                        Map(list(HOSTS), WALKERS + [("cid", "hall")]),
                        Map(HOSTS + ["barn"], list(WALKERS))]:
            self.assert_unlike(filled(ROWS), filled(ROWS, grounds))
            self.assert_unlike(sample(), Links(grounds))

    def test_one_entry_otherwise(self):
        for at, (source, goal, thing, number) in enumerate(ROWS):
            for row in [(source, goal, OTHER, number), (source, goal, thing, number + 1),
                        ("yard", goal, thing, number)]:
                if row[0] != row[1]:
                    self.assert_unlike(filled(ROWS), filled(ROWS[:at] + [row] + ROWS[at + 1:]))
            self.assert_unlike(filled(ROWS), filled(ROWS[:at] + ROWS[at + 1:]))
            self.assert_unlike(filled(ROWS), filled(ROWS + [ROWS[at]]))

    def test_entries_in_another_order(self):
        self.assert_unlike(filled(ROWS), filled([ROWS[0], ROWS[2], ROWS[1], ROWS[3]]))

    def test_on_the_way_back(self):
        self.assert_unlike(filled([("hall", "yard", LETTER, 0)]), filled([("yard", "hall", LETTER, 0)]))

    def test_anything_else(self):
        for links in (sample(), filled(ROWS)):
            others = [thing for thing in no_texts() if not isinstance(thing, Stranger)]
            for other in others + ["", "hall", sample_map(), links.busy(), picture(links), Links, len(links)]:
                self.assert_unlike(links, other)
            self.assertIs(links == Stranger(), False)
            self.assertIs(links != Stranger(), True)


class LengthTest(unittest.TestCase):
    def test_length(self):
        links = sample()
        for many, (source, goal, thing, number) in enumerate(ROWS):
            self.assertEqual(len(links), many)
            links.put(source, goal, thing, number=number)
        self.assertEqual(len(links), 4)
        links.take("hall", "attic")
        self.assertEqual(len(links), 3)
        links.take("attic", "hall")
        self.assertEqual(len(links), 2)


class CopiesTest(unittest.TestCase):
    def test_a_copy_stands_alike(self):
        links = filled(ROWS)
        twin = links.copied()
        self.assertIsNot(twin, links)
        self.assertIs(type(twin), Links)
        self.assertEqual(twin, links)
        self.assertEqual(picture(twin), picture(links))
        self.assertEqual(sample().copied(), sample())

    def test_each_goes_its_own_way(self):
        for at in range(2):
            pair = [filled(ROWS)]
            pair.append(pair[0].copied())
            moving, resting = pair[at], pair[1 - at]
            moving.take("hall", "attic")
            moving.put("hall", "attic", GOER, number=8)
            moving.put("yard", "hall", OTHER)
            self.assertEqual(resting, filled(ROWS))
            self.assertEqual(picture(resting), picture(filled(ROWS)))
            self.assertEqual(moving.entries("hall", "attic"), [(ECHO, 1), (GOER, 8)])
            self.assertEqual(moving.entries("yard", "hall"), [(OTHER, 0)])
            self.assertNotEqual(moving, resting)

    def test_copies_of_copies(self):
        links = filled(ROWS)
        twin = links.copied()
        third = twin.copied()
        twin.take("hall", "yard")
        third.put("hall", "yard", OTHER)
        self.assertEqual(links, filled(ROWS))
        self.assertEqual(twin, filled(ROWS[:3]))
        self.assertEqual(third, filled(ROWS + [("hall", "yard", OTHER, 0)]))

    def test_a_copy_refuses_likewise(self):
        twin = filled(ROWS).copied()
        with self.assertRaises(NoSuch):
            twin.put("hall", "barn", LETTER)
        with self.assertRaises(Still):
            twin.take("yard", "hall")


if __name__ == "__main__":
    unittest.main()
