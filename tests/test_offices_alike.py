"""Offices: refusals, what is told and then changed, equality, copies."""

import itertools
import unittest

from tests.helper import (HOSTS, NAMES, Stranger, no_hosts, no_walkers, office_picture, other_maps, others_than,
                          sample_map, shown)
from walkbox.errors import Begun, Here, NoBar, NoNews, NoSuch, NoTurn
from walkbox.offices import Office

LETTER = ("letter", "ann", "bob", "a")
ANSWER = ("answer", "bob", "ask", ("bob", 0), ("attic", 2))

# Hall, with something of each: bob is shortened to, dan is none, ann is here behind a bar, cid is away.
FULL = [
    ("ask", "bob"), ("take_in", ANSWER), ("shorten", "bob"), ("ask", "bob"), ("write", "ann", 1, "bob", "a"),
    ("leave", "ann", 1, "yard"), ("take_in", ("goer", "ann", 3, ("cid", "bob"))), ("write", "cid", 1, "ann", "b"),
    ("take_in", ("letter", "cid", "ann", "c")), ("take_in", ("answer", "cid", "row", ("bob", 2), ("hall", 1))),
    ("leave", "cid", 1, "attic"),
]


def do(office, word, *parts):
    return getattr(office, word)(*parts)


def opened(deeds=(), host="hall", grounds=None):
    """An office to which such has been done: tuples of a method's name and its arguments."""
    office = Office(grounds or sample_map(), host)
    for word, *parts in deeds:
        do(office, word, *parts)
    return office


class RefusedTest(unittest.TestCase):
    def assert_refused(self, deeds, call, error, **fields):
        """The call is refused so, behind the deeds, and nothing is changed."""
        office = opened(deeds)
        before = office_picture(office)
        for _ in range(2):
            with self.assertRaises(error) as caught:
                do(office, *call)
            self.assertEqual({name: getattr(caught.exception, name) for name in fields}, fields)
            self.assertEqual(office_picture(office), before)
            self.assertEqual(office, opened(deeds))

    def assert_no_such(self, calls, who, deeds=tuple(FULL)):
        """Each call is refused with NoSuch, whose who is this very thing, and nothing is changed."""
        office = opened(deeds)
        before = office_picture(office)
        for call in calls:
            with self.assertRaises(NoSuch, msg=f"{call[0]} {shown(who)}") as caught:
                do(office, *call)
            self.assertIs(caught.exception.who, who)
            self.assertEqual(office_picture(office), before)

    def test_a_host_that_is_none(self):
        for host in no_hosts():
            with self.assertRaises(NoSuch, msg=shown(host)) as caught:
                Office(sample_map(), host)
            self.assertIs(caught.exception.who, host)

    def test_a_walker_that_is_none(self):
        for who in no_walkers():
            self.assert_no_such([("write", who, 1, "bob", "a"), ("write", "ann", 3, who, "a"), ("leave", who, 1, "yard"),
                                 ("ask", who), ("shorten", who), ("post", who), ("shelf", who), ("rows", who)], who)

    def test_writer_ahead_of_reader_and_walker_ahead_of_goal(self):
        for who in no_walkers():
            self.assert_no_such([("write", who, 1, "dan", "a"), ("leave", who, 1, "barn"), ("write", who, 1, who, "a")], who)

    def test_a_thing_for_a_name_that_is_no_walker(self):
        for who in ("dan", "hall"):
            self.assert_no_such([("take_in", ("letter", "ann", who, "a")), ("take_in", ("echo", who, "hall", "row", ("ann", 2))),
                                 ("take_in", ("answer", who, "row", ("ann", 2), ("hall", 2))),
                                 ("take_in", ("answer", who, "came", (who, 2), ("hall", 2))),
                                 ("take_in", ("goer", who, 2, ()))], who)

    def test_no_turn_of_a_goer(self):
        for deeds, stay in [([], 2), ([], 99)]:
            self.assert_refused(deeds, ("take_in", ("goer", "ann", stay, ("bob",))), NoTurn, host="hall", walker="ann")
        away = [("leave", "ann", 1, "yard"), ("write", "cid", 1, "bob", "a")]
        self.assert_refused(away, ("take_in", ("goer", "ann", 2, ("bob",))), NoTurn, host="hall", walker="ann")
        office = opened(away)
        office.take_in(("goer", "ann", 3, ("bob",)))
        self.assertEqual(office.post("ann").sign(), "here")

    def test_no_turn_by_a_sign_that_was_turned(self):
        deeds = FULL[:3] + [("take_in", ("answer", "bob", "short", ("attic", 2), ("attic", 2)))]
        self.assert_refused(deeds, ("take_in", ("goer", "bob", 2, ())), NoTurn, host="hall", walker="bob")

    def test_no_bar(self):
        for sort, mark in [("came", ("bob", 3)), ("short", ("attic", 3)), ("short", ("yard", 2)), ("ask", ("ann", 0))]:
            self.assert_refused(FULL, ("take_in", ("answer", "bob", sort, mark, ("yard", 9))), NoBar, what=sort, mark=mark)
        self.assert_refused([], ("take_in", ANSWER), NoBar, what="ask", mark=("bob", 0))
        self.assert_refused(FULL, ("take_in", ("answer", "ann", "ask", ("ann", 0), ("yard", 9))), NoBar,
                            what="ask", mark=("ann", 0))

    def test_no_bar_of_a_row_is_wanted(self):
        office = opened()
        self.assertEqual(office.take_in(("answer", "bob", "row", ("ann", 7), ("yard", 1))), ([], []))

    def test_leave_for_a_goal_that_is_none(self):
        for goal in no_hosts():
            self.assert_no_such([("leave", "ann", 3, goal), ("leave", "ann", 7, goal), ("leave", "bob", 1, goal)], goal)
        for goal in ("hall", "barn", "ann"):
            self.assert_no_such([("leave", "ann", 3, goal), ("leave", "ann", 7, goal), ("leave", "bob", 1, goal)], goal)

    def test_leave_at_the_wrong_time(self):
        for walker, stay in [("ann", 1), ("ann", 2), ("ann", 4), ("bob", 0), ("bob", 1), ("cid", 1), ("cid", 2)]:
            self.assert_refused(FULL, ("leave", walker, stay, "attic"), NoTurn, host="hall", walker=walker)

    def test_leave_refused_with_rows_that_are_wanted(self):
        deeds = [("write", "ann", 2, "bob", "a"), ("write", "ann", 1, "bob", "b")]
        self.assert_refused(deeds, ("leave", "ann", 2, "yard"), NoTurn, host="hall", walker="ann")
        self.assert_refused(deeds, ("leave", "ann", 1, "hall"), NoSuch, who="hall")

    def test_here(self):
        for word in ("ask", "shorten"):
            self.assert_refused([], (word, "ann"), Here, host="hall", walker="ann")
            self.assert_refused(FULL, (word, "ann"), Here, host="hall", walker="ann")

    def test_here_ahead_of_no_news_and_begun(self):
        deeds = FULL[:3] + [("take_in", ("goer", "bob", 3, ()))]
        self.assert_refused(deeds, ("shorten", "bob"), Here, host="hall", walker="bob")

    def test_no_news(self):
        self.assert_refused([], ("shorten", "bob"), NoNews, host="hall", walker="bob")
        for news in [("yard", 1), ("attic", 1)]:
            deeds = [("take_in", ("answer", "bob", "row", ("ann", 2), news))]
            self.assert_refused(deeds, ("shorten", "bob"), NoNews, host="hall", walker="bob")
        away = [("leave", "ann", 1, "yard"), ("take_in", ("answer", "ann", "row", ("bob", 2), ("attic", 2)))]
        self.assert_refused(away, ("shorten", "ann"), NoNews, host="hall", walker="ann")
        earlier = [("leave", "ann", 1, "yard"), ("take_in", ("answer", "ann", "row", ("bob", 2), ("hall", 1)))]
        self.assert_refused(earlier, ("shorten", "ann"), NoNews, host="hall", walker="ann")

    def test_begun(self):
        self.assert_refused(FULL[:3], ("shorten", "bob"), Begun, host="hall", walker="bob")
        later = FULL[:3] + [("take_in", ("answer", "bob", "row", ("ann", 2), ("yard", 5)))]
        self.assert_refused(later, ("shorten", "bob"), Begun, host="hall", walker="bob")

    def test_no_news_ahead_of_begun(self):
        # Bob came and left while the way was being shortened: its news are older than the sign.
        deeds = FULL[:3] + [("take_in", ("goer", "bob", 3, ())), ("leave", "bob", 3, "yard")]
        self.assert_refused(deeds, ("shorten", "bob"), NoNews, host="hall", walker="bob")

    def test_other_bars_are_no_beginning(self):
        deeds = FULL[:2] + [("ask", "bob")]
        self.assertEqual(opened(deeds).shorten("bob")[0], [("yard", ("echo", "bob", "hall", "short", ("attic", 2)), 1)])


class OwnListsTest(unittest.TestCase):
    def test_told_copies_changed_behind(self):
        office = opened(FULL)
        before = office_picture(office)
        for name in NAMES:
            post, shelf, rows = office.post(name), office.shelf(name), office.rows(name)
            post.sent("ask", (name, 0), first=5)
            post.heard("yard", 99)
            shelf.put(7, LETTER)
            rows.put("ann", 3, LETTER)
            rows.unshut("bob", 8)
            rows.shut("cid", 8)
        self.assertEqual(office_picture(office), before)
        self.assertEqual(office, opened(FULL))

    def test_what_happens_changed_behind(self):
        office, other = opened(FULL), opened(FULL)
        sends, reads = office.write("ann", 3, "bob", "z")
        sends.append(1)
        reads.append(2)
        other.write("ann", 3, "bob", "z")
        self.assertEqual(office, other)
        one, two = opened().ask("bob"), opened().ask("bob")
        self.assertIsNot(one[0], two[0])
        self.assertIsNot(one[1], two[1])
        self.assertIsNot(one[0], one[1])

    def test_told_copies_stay(self):
        office = opened(FULL)
        post, shelf, rows = office.post("ann"), office.shelf("ann"), office.rows("ann")
        office.take_in(("answer", "ann", "came", ("ann", 3), ("hall", 3)))
        self.assertEqual((post, shelf, rows), (opened(FULL).post("ann"), opened(FULL).shelf("ann"), opened(FULL).rows("ann")))
        self.assertNotEqual(shelf, office.shelf("ann"))

    def test_asked_again(self):
        office = opened(FULL)
        self.assertEqual(office_picture(office), office_picture(office))

    def test_no_office_knows_of_another_one(self):
        grounds = sample_map()
        one, two = Office(grounds, "hall"), Office(grounds, "hall")
        one.ask("bob")
        one.write("ann", 1, "bob", "a")
        self.assertEqual(two, opened())
        self.assertEqual(Office(grounds, "hall"), opened())
        self.assertEqual(grounds, sample_map())


class SameTest(unittest.TestCase):
    def assert_equal(self, one, two):
        self.assertEqual([one == two, two == one, one != two, two != one], [True, True, False, False])

    def assert_unlike(self, one, two):
        self.assertEqual([one == two, two == one, one != two, two != one], [False, False, True, True])

    def test_equal(self):
        self.assert_equal(opened(), opened())
        self.assert_equal(opened(FULL), opened(FULL))

    def test_behind_each_deed(self):
        offices = [opened(FULL[:many]) for many in range(len(FULL) + 1)]
        for one, two in itertools.combinations(offices, 2):
            self.assert_unlike(one, two)

    def test_by_post_shelf_and_rows(self):
        behind = [("leave", "ann", 1, "yard"), ("take_in", ("goer", "ann", 3, ()))]
        unlike = [behind, behind + [("take_in", ("letter", "cid", "ann", "c"))], behind + [("write", "cid", 1, "ann", "c")],
                  behind + [("take_in", ("answer", "ann", "row", ("cid", 5), ("hall", 1)))], behind + [("ask", "bob")]]
        for one, two in itertools.combinations(unlike, 2):
            self.assert_unlike(opened(one), opened(two))

    def test_by_rows_and_by_shelf_alone(self):
        unlike = [opened(), opened([("take_in", ("goer", "bob", 2, ("ann",)))]), opened([("take_in", ("goer", "bob", 2, ()))]),
                  opened([("take_in", ("goer", "bob", 2, ("cid",)))]),
                  opened([("take_in", ("goer", "bob", 2, ())), ("take_in", LETTER)])]
        for one, two in itertools.combinations(unlike, 2):
            self.assert_unlike(one, two)

    def test_another_host(self):
        for one, two in itertools.combinations(HOSTS, 2):
            self.assert_unlike(opened(host=one), opened(host=two))

    def test_another_map(self):
        for grounds in other_maps():
            self.assert_unlike(opened(), opened(grounds=grounds))

    def test_anything_else(self):
        for office in (opened(), opened(FULL)):
            for other in others_than(office) + [office.post("ann"), office_picture(office)]:
                self.assert_unlike(office, other)
            self.assertIs(office == Stranger(), False)


class CopiesTest(unittest.TestCase):
    def test_a_copy_stands_alike(self):
        twin = opened(FULL).copied()
        self.assertIs(type(twin), Office)
        self.assertEqual(twin, opened(FULL))
        self.assertEqual(office_picture(twin), office_picture(opened(FULL)))

    def test_each_goes_its_own_way(self):
        further = [("take_in", ("answer", "bob", "short", ("attic", 2), ("yard", 7))), ("write", "ann", 3, "bob", "x"),
                   ("write", "ann", 3, "cid", "x"), ("take_in", ("letter", "bob", "ann", "y")),
                   ("take_in", ("answer", "ann", "came", ("ann", 3), ("hall", 3))), ("leave", "ann", 3, "yard"),
                   ("ask", "ann"), ("shorten", "bob")]
        for at in range(2):
            pair = [opened(FULL)]
            pair.append(pair[0].copied())
            for many, (word, *parts) in enumerate(further):
                do(pair[at], word, *parts)
                self.assertEqual(office_picture(pair[1 - at]), office_picture(opened(FULL)))
                self.assertEqual(pair[at], opened(FULL + further[:many + 1]))
            self.assertEqual(pair[1 - at], opened(FULL))

    def test_a_copy_tells_the_same_happenings(self):
        office = opened(FULL)
        twin = office.copied()
        call = ("answer", "bob", "short", ("attic", 2), ("yard", 7))
        self.assertEqual(office.take_in(call), twin.take_in(call))


if __name__ == "__main__":
    unittest.main()
