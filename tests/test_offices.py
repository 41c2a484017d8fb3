"""Offices: what happens, and what posts, shelves and rows tell behind it."""

import unittest

from tests.helper import HOSTS, NAMES, office_picture, sample_map
from walkbox.maps import Map
from walkbox.offices import Office
from walkbox.posts import Post
from walkbox.rows import Rows
from walkbox.shelves import Shelf

NOTHING = ([], [])


def letter(word, writer="ann", reader="bob"):
    return ("letter", writer, reader, word)


def office_at(host):
    return Office(sample_map(), host)


def took_in(office, *things):
    """Each thing, or tuple (thing, number), is taken in; told is the last that happens."""
    happens = None
    for thing in things:
        if isinstance(thing[0], tuple):
            happens = office.take_in(thing[0], number=thing[1])
        else:
            happens = office.take_in(thing)
    return happens


def yard_with_ann():
    """The office of yard, to which ann has come for her second stay, with a row for bob that is shut."""
    office = office_at("yard")
    took_in(office, ("goer", "ann", 2, ("bob",)))
    return office


def hall_with_news():
    """The office of hall, which has heard of bob at attic in his second stay."""
    office = office_at("hall")
    office.ask("bob")
    took_in(office, ("answer", "bob", "ask", ("bob", 0), ("attic", 2)))
    return office


class BeginningTest(unittest.TestCase):
    def test_of_each_walker_a_post_a_shelf_and_rows(self):
        for host in HOSTS:
            office = office_at(host)
            for name in NAMES:
                self.assertEqual(office.post(name), Post(sample_map(), host, name))
                self.assertEqual(office.shelf(name), Shelf())
                self.assertEqual(office.rows(name), Rows(sample_map()))

    def test_kinds_of_what_happens(self):
        office = office_at("hall")
        for happens in (office.write("ann", 1, "bob", "a"), office.take_in(letter("b")), office.ask("bob"),
                        office.leave("ann", 1, "yard")):
            self.assertIs(type(happens), tuple)
            self.assertEqual([type(part) for part in happens], [list, list])
            self.assertEqual([type(part) for part in happens[0]], [tuple] * len(happens[0]))

    def test_by_names(self):
        office = Office(host="hall", grounds=sample_map())
        self.assertEqual(office.write(word="a", reader="bob", stay=1, writer="ann"), ([("yard", letter("a"), 1)], []))
        self.assertEqual(office.take_in(number=3, thing=letter("b")), ([("yard", letter("b"), 1)], []))
        self.assertEqual(len(office.ask(walker="bob")[0]), 1)
        office.take_in(("answer", "bob", "ask", ("bob", 0), ("attic", 2)), number=0)
        self.assertEqual(len(office.shorten(walker="bob")[0]), 1)
        self.assertEqual(office.leave(goal="attic", stay=1, walker="cid"), ([("attic", ("goer", "cid", 2, ()), 0)], []))
        self.assertEqual(office.post(walker="cid").sign(), ("attic", 2))
        self.assertEqual((len(office.shelf(walker="cid")), len(office.rows(walker="cid"))), (0, 0))
        with self.assertRaises(TypeError):
            office.take_in(letter("c"), 3)


class WrittenTest(unittest.TestCase):
    def test_to_one_that_is_here(self):
        office = office_at("hall")
        self.assertEqual(office.write("ann", 1, "cid", "a"), ([], [("cid", "ann", "a")]))
        self.assertEqual(office.write("ann", 1, "ann", "b"), ([], [("ann", "ann", "b")]))
        self.assertEqual(office, office_at("hall"))

    def test_to_one_that_is_elsewhere(self):
        office = office_at("hall")
        self.assertEqual(office.write("ann", 1, "bob", "a"), ([("yard", letter("a"), 1)], []))
        self.assertEqual(office.rows("bob").told(), [("ann", 1, False, True, False, [])])
        self.assertEqual(office.write("ann", 1, "bob", "b"), ([("yard", letter("b"), 1)], []))
        self.assertEqual(office.write("cid", 1, "bob", "c"), ([("yard", letter("c", "cid"), 1)], []))
        self.assertEqual(office.rows("bob").told(), [("ann", 1, False, True, False, []), ("cid", 1, False, True, False, [])])
        self.assertEqual(len(office.shelf("bob")), 0)

    def test_in_the_row_of_writer_and_stay(self):
        office = yard_with_ann()
        self.assertEqual(office.write("ann", 2, "bob", "a"), NOTHING)
        self.assertEqual(office.write("ann", 2, "bob", "b"), NOTHING)
        self.assertEqual(office.rows("bob").told(), [("ann", 2, True, False, False, [letter("a"), letter("b")])])
        self.assertEqual(office.write("cid", 4, "bob", "c"), ([], [("bob", "cid", "c")]))
        self.assertEqual(office.write("ann", 3, "bob", "d"), ([], [("bob", "ann", "d")]))

    def test_behind_a_bar(self):
        office = yard_with_ann()
        self.assertEqual(office.write("bob", 1, "ann", "a"), NOTHING)
        self.assertEqual(office.rows("ann").told(), [("bob", 1, False, False, False, [letter("a", "bob", "ann")])])
        self.assertEqual(office.write("ann", 2, "ann", "b"), NOTHING)
        self.assertEqual(took_in(office, ("answer", "ann", "came", ("ann", 2), ("yard", 2))),
                         ([], [("ann", "bob", "a"), ("ann", "ann", "b")]))
        self.assertEqual(office.rows("ann").told(), [])

    def test_behind_a_bar_of_height_nought(self):
        office = office_at("hall")
        office.ask("bob")
        self.assertEqual(office.write("ann", 1, "bob", "a"), ([("yard", letter("a"), 1)], []))

    def test_only_for_its_reader(self):
        office = yard_with_ann()
        office.write("bob", 1, "ann", "a")
        before = office_picture(office, ["ann", "cid"])
        self.assertEqual(office.write("bob", 1, "bob", "b"), ([], [("bob", "bob", "b")]))
        self.assertEqual(office_picture(office, ["ann", "cid"]), before)


class ParcelsTest(unittest.TestCase):
    def test_a_letter_is_read_where_its_reader_is(self):
        self.assertEqual(took_in(office_at("yard"), (letter("a"), 1)), ([], [("bob", "ann", "a")]))
        self.assertEqual(took_in(office_at("yard"), letter("a")), ([], [("bob", "ann", "a")]))

    def test_a_letter_is_sent_on_with_the_number_of_the_sign(self):
        office = office_at("yard")
        office.leave("bob", 1, "attic")
        self.assertEqual(took_in(office, (letter("a"), 1)), ([("attic", letter("a"), 2)], []))
        self.assertEqual(office.rows("bob").told(), [])
        self.assertEqual(took_in(office_at("attic"), (letter("a"), 7)), ([("yard", letter("a"), 1)], []))

    def test_an_echo_is_answered_where_its_walker_is(self):
        office = office_at("yard")
        for sort, mark in [("came", ("bob", 3)), ("short", ("attic", 2)), ("ask", ("bob", 0)), ("row", ("ann", 2))]:
            self.assertEqual(took_in(office, (("echo", "bob", "hall", sort, mark), 1)),
                             ([("hall", ("answer", "bob", sort, mark, ("yard", 1)), 0)], []))
        self.assertEqual(office, office_at("yard"))

    def test_an_echo_is_answered_with_the_last_stay(self):
        office = yard_with_ann()
        self.assertEqual(took_in(office, (("echo", "ann", "attic", "ask", ("ann", 0)), 2)),
                         ([("attic", ("answer", "ann", "ask", ("ann", 0), ("yard", 2)), 0)], []))

    def test_an_echo_is_sent_on(self):
        office = office_at("hall")
        office.leave("ann", 1, "yard")
        echo = ("echo", "ann", "yard", "came", ("ann", 2))
        self.assertEqual(took_in(office, (echo, 1)), ([("yard", echo, 2)], []))
        self.assertEqual(office.post("ann").bars(), [])

    def test_below_at_and_above_the_height(self):
        # Ann's bar at yard has the height 2.
        for number, passes in [(0, False), (1, False), (2, True), (3, True), (9, True)]:
            office = yard_with_ann()
            parcel = letter("a", "bob", "ann")
            happens = took_in(office, (parcel, number))
            self.assertEqual(happens, ([], [("ann", "bob", "a")] if passes else []))
            self.assertEqual(office.shelf("ann").told(), [] if passes else [(number, parcel)])

    def test_without_a_number_it_is_nought(self):
        office = yard_with_ann()
        self.assertEqual(took_in(office, letter("a", "bob", "ann")), NOTHING)
        self.assertEqual(office.shelf("ann").told(), [(0, letter("a", "bob", "ann"))])

    def test_what_waited_passes_by_numbers(self):
        office = yard_with_ann()
        things = [(letter("a", "bob", "ann"), 1), (letter("b", "bob", "ann"), 0), (letter("c", "bob", "ann"), 1)]
        self.assertEqual(took_in(office, *things), NOTHING)
        self.assertEqual(took_in(office, ("answer", "ann", "came", ("ann", 2), ("yard", 2))),
                         ([], [("ann", "bob", "b"), ("ann", "bob", "a"), ("ann", "bob", "c")]))

    def test_rows_pass_ahead_of_the_shelf(self):
        office = yard_with_ann()
        took_in(office, (letter("a", "cid", "ann"), 1))
        office.write("bob", 1, "ann", "b")
        self.assertEqual(took_in(office, ("answer", "ann", "came", ("ann", 2), ("yard", 2))),
                         ([], [("ann", "bob", "b"), ("ann", "cid", "a")]))

    def test_rows_wait_where_the_shelf_passes(self):
        office = yard_with_ann()
        office.write("bob", 1, "ann", "b")
        self.assertEqual(took_in(office, (letter("a", "cid", "ann"), 2)), ([], [("ann", "cid", "a")]))
        self.assertEqual(len(office.rows("ann")), 1)

    def test_only_for_the_one_that_it_is_for(self):
        office = yard_with_ann()
        office.write("ann", 2, "bob", "a")
        took_in(office, (letter("b", "bob", "ann"), 1))
        before = office_picture(office)
        self.assertEqual(took_in(office, (letter("c", "ann", "cid"), 1)), ([("hall", letter("c", "ann", "cid"), 1)], []))
        self.assertEqual(office_picture(office), before)


class OwnEchoTest(unittest.TestCase):
    def test_an_echo_of_its_own_that_comes_back(self):
        office = yard_with_ann()
        took_in(office, (letter("a", "bob", "ann"), 1))
        office.write("bob", 1, "ann", "b")
        self.assertEqual(took_in(office, (("echo", "ann", "yard", "came", ("ann", 2)), 2)),
                         ([], [("ann", "bob", "b"), ("ann", "bob", "a")]))
        post = office.post("ann")
        self.assertEqual((post.bars(), post.news(), post.sign(), post.last()), ([], ("yard", 2), "here", 2))

    def test_an_echo_of_a_row(self):
        office = yard_with_ann()
        office.write("ann", 2, "bob", "a")
        self.assertEqual(took_in(office, (("echo", "bob", "yard", "row", ("ann", 2)), 1)), ([], [("bob", "ann", "a")]))
        self.assertEqual(office.rows("bob"), Rows(sample_map()))
        self.assertEqual(office.post("bob").news(), ("yard", 1))

    def test_an_echo_of_a_row_ahead_of_its_goer(self):
        office = office_at("yard")
        self.assertEqual(took_in(office, (("echo", "bob", "yard", "row", ("ann", 2)), 1)), NOTHING)
        self.assertEqual(office.rows("bob").ahead(), [("ann", 2)])

    def test_the_passing_under_way_goes_on(self):
        # Four parcels by number 1 wait for the bar; the last of them opens a row that is shut.
        office = yard_with_ann()
        row = ("echo", "ann", "yard", "row", ("bob", 5))
        took_in(office, (letter("a", "cid", "ann"), 1), (row, 1), (letter("b", "cid", "ann"), 1))
        took_in(office, ("goer", "cid", 2, ("ann",)))
        office.write("cid", 2, "ann", "c")
        took_in(office, (("echo", "ann", "yard", "row", ("cid", 2)), 1))
        self.assertEqual(took_in(office, (("echo", "ann", "yard", "came", ("ann", 2)), 3)),
                         ([], [("ann", "cid", "a"), ("ann", "cid", "b"), ("ann", "cid", "c")]))
        self.assertEqual(office.rows("ann").ahead(), [("bob", 5)])
        self.assertEqual(len(office.shelf("ann")), 0)

    def test_what_is_answered_elsewhere_between(self):
        office = yard_with_ann()
        ask = ("echo", "ann", "hall", "ask", ("ann", 0))
        took_in(office, (letter("a", "bob", "ann"), 1), (ask, 1), (letter("b", "bob", "ann"), 1))
        self.assertEqual(took_in(office, (("echo", "ann", "yard", "came", ("ann", 2)), 2)),
                         ([("hall", ("answer", "ann", "ask", ("ann", 0), ("yard", 2)), 0)],
                          [("ann", "bob", "a"), ("ann", "bob", "b")]))


class AnswersTest(unittest.TestCase):
    def test_came(self):
        office = yard_with_ann()
        self.assertEqual(took_in(office, ("answer", "ann", "came", ("ann", 2), ("attic", 5))), NOTHING)
        post = office.post("ann")
        self.assertEqual((post.bars(), post.news(), post.sign()), ([], ("attic", 5), "here"))

    def test_ask(self):
        office = hall_with_news()
        post = office.post("bob")
        self.assertEqual((post.bars(), post.news(), post.sign()), ([], ("attic", 2), ("yard", 1)))

    def test_ask_leaves_other_bars(self):
        office = hall_with_news()
        office.ask("bob")
        office.shorten("bob")
        office.ask("bob")
        took_in(office, ("answer", "bob", "ask", ("bob", 0), ("yard", 1)))
        self.assertEqual(office.post("bob").bars(), [("short", ("attic", 2), 1), ("ask", ("bob", 0), 1)])

    def test_news_later_the_same_and_earlier(self):
        for news, heard in [(("yard", 1), ("attic", 2)), (("yard", 2), ("attic", 2)), (("yard", 3), ("yard", 3))]:
            for sort, mark in [("ask", ("bob", 0)), ("row", ("ann", 2))]:
                office = hall_with_news()
                office.ask("bob")
                took_in(office, ("answer", "bob", sort, mark, news))
                self.assertEqual(office.post("bob").news(), heard)

    def test_row(self):
        office = yard_with_ann()
        office.write("ann", 2, "bob", "a")
        self.assertEqual(took_in(office, ("answer", "bob", "row", ("ann", 2), ("attic", 4))), ([], [("bob", "ann", "a")]))
        self.assertEqual(office.rows("bob"), Rows(sample_map()))
        self.assertEqual(office.post("bob").news(), ("attic", 4))

    def test_row_ahead(self):
        office = office_at("yard")
        self.assertEqual(took_in(office, ("answer", "bob", "row", ("ann", 2), ("attic", 4))), NOTHING)
        self.assertEqual((office.rows("bob").ahead(), office.rows("bob").told()), ([("ann", 2)], []))
        self.assertEqual(office.rows("ann").ahead(), [])

    def test_a_row_that_opens_while_there_is_a_bar(self):
        office = yard_with_ann()
        took_in(office, ("goer", "cid", 2, ("ann",)))
        office.write("cid", 2, "ann", "a")
        self.assertEqual(took_in(office, ("answer", "ann", "row", ("cid", 2), ("yard", 2))), NOTHING)
        self.assertEqual(office.rows("ann").told(), [("cid", 2, False, False, False, [letter("a", "cid", "ann")])])
        self.assertEqual(took_in(office, ("answer", "ann", "came", ("ann", 2), ("yard", 2))), ([], [("ann", "cid", "a")]))

    def test_short_turns_the_sign(self):
        office = hall_with_news()
        office.shorten("bob")
        self.assertEqual(office.write("ann", 1, "bob", "a"), NOTHING)
        self.assertEqual(office.rows("bob").told(), [("ann", 1, False, False, False, [letter("a")])])
        self.assertEqual(took_in(office, (letter("b", "cid"), 1)), NOTHING)
        self.assertEqual(took_in(office, ("answer", "bob", "short", ("attic", 2), ("yard", 3))),
                         ([("attic", letter("a"), 2), ("attic", letter("b", "cid"), 2)], []))
        post = office.post("bob")
        self.assertEqual((post.sign(), post.bars(), post.news(), post.last()), (("attic", 2), [], ("yard", 3), 0))
        self.assertEqual(office.rows("bob").told(), [("ann", 1, False, True, False, [])])

    def test_other_sorts_do_not_turn_it(self):
        office = hall_with_news()
        office.ask("bob")
        took_in(office, ("answer", "bob", "row", ("ann", 9), ("attic", 9)))
        took_in(office, ("answer", "bob", "ask", ("bob", 0), ("attic", 10)))
        self.assertEqual(office.post("bob").sign(), ("yard", 1))

    def test_short_with_one_that_is_here(self):
        office = hall_with_news()
        office.shorten("bob")
        took_in(office, ("goer", "bob", 3, ()))
        self.assertEqual(office.post("bob").bars(), [("short", ("attic", 2), 1), ("came", ("bob", 3), 1)])
        took_in(office, ("answer", "bob", "short", ("attic", 2), ("attic", 2)))
        self.assertEqual((office.post("bob").sign(), office.post("bob").bars()), ("here", [("came", ("bob", 3), 1)]))

    def test_short_with_one_that_came_and_left(self):
        office = hall_with_news()
        office.shorten("bob")
        took_in(office, ("goer", "bob", 3, ()))
        office.leave("bob", 3, "yard")
        took_in(office, ("answer", "bob", "short", ("attic", 2), ("attic", 2)))
        self.assertEqual(office.post("bob").sign(), ("yard", 4))
        self.assertEqual(office.post("bob").bars(), [("came", ("bob", 3), 1)])

    def test_short_waits_for_a_higher_bar(self):
        office = hall_with_news()
        office.shorten("bob")
        took_in(office, ("goer", "bob", 3, ()), (letter("a"), 2))
        took_in(office, ("answer", "bob", "short", ("attic", 2), ("attic", 2)))
        self.assertEqual(office.shelf("bob").told(), [(2, letter("a"))])
        self.assertEqual(took_in(office, ("answer", "bob", "came", ("bob", 3), ("hall", 3))), ([], [("bob", "ann", "a")]))


class GoerTest(unittest.TestCase):
    def test_it_comes(self):
        office = office_at("yard")
        self.assertEqual(took_in(office, ("goer", "ann", 2, ())),
                         ([("hall", ("echo", "ann", "yard", "came", ("ann", 2)), 1)], []))
        post = office.post("ann")
        self.assertEqual((post.sign(), post.last(), post.bars(), post.news()), ("here", 2, [("came", ("ann", 2), 1)], None))
        for name in NAMES:
            self.assertEqual(office.rows(name), Rows(sample_map()))

    def test_the_echo_goes_by_the_sign_that_was(self):
        office = office_at("hall")
        office.leave("ann", 1, "yard")
        self.assertEqual(took_in(office, ("goer", "ann", 5, ())),
                         ([("yard", ("echo", "ann", "hall", "came", ("ann", 5)), 2)], []))
        self.assertEqual(office.post("ann").bars(), [("came", ("ann", 5), 2)])

    def test_it_comes_again_while_its_echo_is_under_way(self):
        office = office_at("yard")
        took_in(office, ("goer", "ann", 2, ()))
        office.leave("ann", 2, "attic")
        self.assertEqual(took_in(office, ("goer", "ann", 4, ())),
                         ([("attic", ("echo", "ann", "yard", "came", ("ann", 4)), 3)], []))
        self.assertEqual(office.post("ann").bars(), [("came", ("ann", 2), 1), ("came", ("ann", 4), 3)])

    def test_rows_are_shut(self):
        office = office_at("yard")
        took_in(office, ("goer", "ann", 2, ("cid", "ann")))
        self.assertEqual(office.rows("bob").told(), [])
        for name in ("ann", "cid"):
            self.assertEqual(office.rows(name).told(), [("ann", 2, True, False, False, [])])

    def test_a_row_that_is_unshut_ahead_is_not_shut(self):
        office = office_at("yard")
        took_in(office, ("answer", "cid", "row", ("ann", 2), ("hall", 1)))
        took_in(office, ("goer", "ann", 2, ("bob", "cid")))
        self.assertEqual((office.rows("cid").told(), office.rows("cid").ahead()), ([], []))
        self.assertEqual(office.rows("bob").told(), [("ann", 2, True, False, False, [])])

    def test_what_waits_on_the_shelf_behind_a_bar_of_a_stay_before(self):
        office = office_at("yard")
        took_in(office, ("goer", "ann", 2, ()), (letter("a", "bob", "ann"), 1))
        office.leave("ann", 2, "attic")
        self.assertEqual(took_in(office, ("goer", "ann", 4, ()))[1], [])
        self.assertEqual(took_in(office, ("answer", "ann", "came", ("ann", 2), ("yard", 2))), NOTHING)
        self.assertEqual(took_in(office, ("answer", "ann", "came", ("ann", 4), ("yard", 4))), ([], [("ann", "bob", "a")]))

    def test_no_passing_for_others(self):
        office = office_at("yard")
        took_in(office, ("goer", "cid", 2, ("bob",)))
        office.write("cid", 2, "bob", "a")
        before = office.rows("bob")
        took_in(office, ("goer", "ann", 2, ()))
        self.assertEqual(office.rows("bob"), before)


class LeavesTest(unittest.TestCase):
    def test_without_rows(self):
        office = office_at("hall")
        self.assertEqual(office.leave("ann", 1, "attic"), ([("attic", ("goer", "ann", 2, ()), 0)], []))
        self.assertEqual((office.post("ann").sign(), office.post("ann").last()), (("attic", 2), 1))
        self.assertEqual(office_picture(office, ["bob", "cid"]), office_picture(office_at("hall"), ["bob", "cid"]))

    def test_with_a_row_that_was_sent(self):
        office = office_at("hall")
        office.write("ann", 1, "bob", "a")
        office.write("ann", 1, "cid", "b")
        self.assertEqual(office.leave("ann", 1, "attic"),
                         ([("yard", ("echo", "bob", "attic", "row", ("ann", 2)), 1),
                           ("attic", ("goer", "ann", 2, ("bob",)), 0)], []))
        self.assertEqual(office.rows("bob"), Rows(sample_map()))

    def test_only_rows_of_the_leaving_one_and_its_stay(self):
        office = office_at("hall")
        office.write("cid", 1, "bob", "a")
        office.write("ann", 4, "bob", "b")
        before = office.rows("bob")
        self.assertEqual(office.leave("ann", 1, "yard"), ([("yard", ("goer", "ann", 2, ()), 0)], []))
        self.assertEqual(office.rows("bob"), before)

    def test_with_a_row_that_is_shut(self):
        office = yard_with_ann()
        office.write("ann", 2, "bob", "a")
        self.assertEqual(office.leave("ann", 2, "hall"), ([("hall", ("goer", "ann", 3, ("bob",)), 0)], []))
        echo = ("echo", "bob", "hall", "row", ("ann", 3))
        self.assertEqual(office.rows("bob").told(), [("ann", 2, True, False, True, [letter("a"), echo])])
        self.assertEqual(took_in(office, ("answer", "bob", "row", ("ann", 2), ("yard", 1))),
                         ([("hall", ("answer", "bob", "row", ("ann", 3), ("yard", 1)), 0)], [("bob", "ann", "a")]))
        self.assertEqual(office.rows("bob"), Rows(sample_map()))

    def test_with_a_row_behind_a_bar(self):
        office = hall_with_news()
        office.shorten("bob")
        office.write("ann", 1, "bob", "a")
        self.assertEqual(office.leave("ann", 1, "yard"), ([("yard", ("goer", "ann", 2, ("bob",)), 0)], []))
        echo = ("echo", "bob", "yard", "row", ("ann", 2))
        self.assertEqual(office.rows("bob").told(), [("ann", 1, False, False, True, [letter("a"), echo])])
        self.assertEqual(took_in(office, ("answer", "bob", "short", ("attic", 2), ("attic", 2))),
                         ([("attic", letter("a"), 2), ("attic", echo, 2)], []))
        self.assertEqual(office.rows("bob").told(), [])

    def test_with_rows_for_several_and_itself(self):
        # At yard: bob is here; for ann there is a bar; cid is at hall; each has a row of ann's second stay.
        office = office_at("yard")
        took_in(office, ("goer", "ann", 2, ("ann", "bob")))
        office.write("ann", 2, "cid", "a")
        office.write("ann", 2, "ann", "b")
        office.write("ann", 2, "bob", "c")
        self.assertEqual(office.leave("ann", 2, "attic"),
                         ([("hall", ("echo", "cid", "attic", "row", ("ann", 3)), 1),
                           ("attic", ("goer", "ann", 3, ("bob", "ann", "cid")), 0)], []))
        self.assertEqual(office.rows("bob").told(), [("ann", 2, True, False, True, [
            letter("c"), ("echo", "bob", "attic", "row", ("ann", 3))])])
        self.assertEqual(office.rows("ann").told(), [("ann", 2, True, False, True, [
            letter("b", "ann", "ann"), ("echo", "ann", "attic", "row", ("ann", 3))])])
        self.assertEqual(office.rows("cid").told(), [])

    def test_its_own_row_behind_a_bar(self):
        office = yard_with_ann()
        office.write("ann", 2, "ann", "a")
        self.assertEqual(office.leave("ann", 2, "attic")[0][-1], ("attic", ("goer", "ann", 3, ("bob", "ann")), 0))
        echo = ("echo", "ann", "attic", "row", ("ann", 3))
        self.assertEqual(took_in(office, ("answer", "ann", "came", ("ann", 2), ("yard", 2))),
                         ([("attic", letter("a", "ann", "ann"), 3), ("attic", echo, 3)], []))

    def test_its_own_row_that_is_unshut_behind(self):
        office = office_at("yard")
        took_in(office, ("goer", "ann", 2, ("ann",)))
        took_in(office, ("answer", "ann", "came", ("ann", 2), ("yard", 2)))
        office.write("ann", 2, "ann", "a")
        echo = ("echo", "ann", "attic", "row", ("ann", 3))
        self.assertEqual(office.leave("ann", 2, "attic"), ([("attic", ("goer", "ann", 3, ("ann",)), 0)], []))
        self.assertEqual(office.rows("ann").told(), [("ann", 2, True, False, True, [letter("a", "ann", "ann"), echo])])
        self.assertEqual(took_in(office, ("answer", "ann", "row", ("ann", 2), ("yard", 2))),
                         ([("attic", letter("a", "ann", "ann"), 3), ("attic", echo, 3)], []))

    def test_rows_of_several_writers_behind_a_bar(self):
        office = hall_with_news()
        office.shorten("bob")
        office.write("cid", 1, "bob", "a")
        office.write("ann", 1, "bob", "b")
        self.assertEqual(office.leave("cid", 1, "attic"), ([("attic", ("goer", "cid", 2, ("bob",)), 0)], []))
        self.assertEqual([row[:2] for row in office.rows("bob").told()], [("ann", 1), ("cid", 1)])

    def test_in_the_order_of_the_map(self):
        grounds = Map(["hall", "yard"], [("eve", "yard"), ("ann", "hall"), ("bob", "yard"), ("dan", "yard")])
        office = Office(grounds, "hall")
        for reader in ("bob", "dan", "eve"):
            office.write("ann", 1, reader, "a")
        sends, reads = office.leave("ann", 1, "yard")
        self.assertEqual(sends, [("yard", ("echo", name, "yard", "row", ("ann", 2)), 1) for name in ("eve", "bob", "dan")]
                         + [("yard", ("goer", "ann", 2, ("eve", "bob", "dan")), 0)])
        self.assertEqual(reads, [])

    def test_again_and_again(self):
        office = office_at("hall")
        office.leave("ann", 1, "yard")
        took_in(office, ("goer", "ann", 3, ()))
        self.assertEqual(office.leave("ann", 3, "attic"), ([("attic", ("goer", "ann", 4, ()), 0)], []))
        self.assertEqual((office.post("ann").sign(), office.post("ann").last()), (("attic", 4), 3))


class AskedTest(unittest.TestCase):
    def test_asked(self):
        office = office_at("hall")
        echo = ("echo", "bob", "hall", "ask", ("bob", 0))
        self.assertEqual(office.ask("bob"), ([("yard", echo, 1)], []))
        self.assertEqual((office.post("bob").bars(), office.post("bob").height()), ([("ask", ("bob", 0), 1)], 0))
        self.assertEqual(office.ask("bob"), ([("yard", echo, 1)], []))
        self.assertEqual(office.post("bob").bars(), [("ask", ("bob", 0), 1)] * 2)

    def test_asked_by_the_number_of_the_sign(self):
        office = office_at("hall")
        office.leave("ann", 1, "attic")
        self.assertEqual(office.ask("ann"), ([("attic", ("echo", "ann", "hall", "ask", ("ann", 0)), 2)], []))
        self.assertEqual(office.post("ann").bars(), [("ask", ("ann", 0), 2)])

    def test_shortened(self):
        office = hall_with_news()
        self.assertEqual(office.shorten("bob"), ([("yard", ("echo", "bob", "hall", "short", ("attic", 2)), 1)], []))
        post = office.post("bob")
        self.assertEqual((post.bars(), post.height(), post.sign()), ([("short", ("attic", 2), 1)], 2, ("yard", 1)))

    def test_shortened_again_behind_the_answer(self):
        office = hall_with_news()
        office.shorten("bob")
        took_in(office, ("answer", "bob", "short", ("attic", 2), ("yard", 3)))
        self.assertEqual(office.shorten("bob"), ([("attic", ("echo", "bob", "hall", "short", ("yard", 3)), 2)], []))
        self.assertEqual(office.post("bob").bars(), [("short", ("yard", 3), 2)])

    def test_nothing_waits_first(self):
        # Behind a bar, too, such echoes go at once, and nothing else passes.
        office = hall_with_news()
        office.shorten("bob")
        office.write("ann", 1, "bob", "a")
        took_in(office, (letter("b", "cid"), 1))
        before = (office.rows("bob"), office.shelf("bob"))
        self.assertEqual(office.ask("bob"), ([("yard", ("echo", "bob", "hall", "ask", ("bob", 0)), 1)], []))
        self.assertEqual((office.rows("bob"), office.shelf("bob")), before)


if __name__ == "__main__":
    unittest.main()
