"""Worlds: each deed with what comes of it, and each refusal."""

import unittest

from tests.helper import HOSTS, NAMES, WALKERS, no_hosts, no_texts, no_walkers, sample_map, shown, world_picture
from walkbox.errors import Away, Begun, Here, NoNews, NoSuch, NoWord, Still
from walkbox.links import Links
from walkbox.posts import Post
from walkbox.rows import Rows
from walkbox.shelves import Shelf
from walkbox.worlds import World

A = ("letter", "ann", "bob", "a")
GOER = ("goer", "ann", 2, ("bob",))
ROW_ECHO = ("echo", "bob", "attic", "row", ("ann", 2))
CAME = ("echo", "ann", "attic", "came", ("ann", 2))

# Ann writes to bob, who is at yard, and walks to attic: a letter and an echo on one link, a goer on another one.
BEGUN = [("write", "ann", "bob", "a"), ("walk", "ann", "attic")]


def done(*deeds):
    """A world of the sample map in which the deeds are done."""
    world = World(sample_map())
    for deed in deeds:
        world.do(deed)
    return world


def entries(world, source, goal):
    return world.links().entries(source, goal)


class BeginningTest(unittest.TestCase):
    def test_at_first(self):
        world = World(sample_map())
        self.assertEqual(world.grounds(), sample_map())
        for name, home in WALKERS:
            self.assertEqual((world.box(name), world.place(name), world.stay(name)), ([], home, 1))
            for host in HOSTS:
                self.assertEqual(world.post(host, name), Post(sample_map(), host, name))
                self.assertEqual(world.shelf(host, name), Shelf())
                self.assertEqual(world.rows(host, name), Rows(sample_map()))
        self.assertEqual(world.links(), Links(sample_map()))
        self.assertIs(world.is_quiet(), True)
        self.assertEqual((world.history(), world.log()), ([], []))

    def test_by_names(self):
        world = World(grounds=sample_map())
        world.write(word="a", reader="bob", writer="ann")
        world.walk(goal="yard", walker="cid")
        self.assertEqual(world.hand(goal="yard", source="hall"), (A, 1))
        world.ask(walker="bob", host="attic")
        self.assertEqual((world.box(walker="bob"), world.place(walker="cid"), world.stay(walker="cid")),
                         ([("ann", "a")], ("hall", "yard"), 2))
        self.assertEqual(world.post(walker="bob", host="attic").bars(), [("ask", ("bob", 0), 1)])
        self.assertEqual((len(world.shelf(walker="bob", host="attic")), len(world.rows(walker="bob", host="attic"))), (0, 0))
        world.quieted(choices=[], most=10)
        world.do(deed=("walk", "bob", "hall"))
        self.assertEqual(world.run(deeds=[("hand", "yard", "hall")]), 1)
        world.quieted()
        world.ask("attic", "bob")
        world.quieted()
        world.shorten(walker="bob", host="attic")
        self.assertEqual(world.history()[-1], ("short", "attic", "bob"))


class WriteTest(unittest.TestCase):
    def test_to_one_at_the_same_host(self):
        world = World(sample_map())
        self.assertIs(world.write("ann", "cid", "a"), None)
        world.write("ann", "ann", "b")
        world.write("cid", "ann", "c")
        self.assertEqual((world.box("cid"), world.box("ann")), ([("ann", "a")], [("ann", "b"), ("cid", "c")]))
        self.assertIs(world.is_quiet(), True)

    def test_to_one_elsewhere(self):
        world = done(("write", "ann", "bob", "a"))
        self.assertEqual(entries(world, "hall", "yard"), [(A, 1)])
        self.assertEqual((world.box("bob"), len(world.links())), ([], 1))
        self.assertIs(world.is_quiet(), False)
        self.assertEqual(world.rows("hall", "bob").told(), [("ann", 1, False, True, False, [])])

    def test_by_the_stay_of_its_writer(self):
        world = done(*BEGUN)
        world.hand("hall", "attic")
        world.write("ann", "bob", "b")
        self.assertEqual(world.rows("attic", "bob").told(), [("ann", 2, True, False, False, [("letter", "ann", "bob", "b")])])
        world.write("ann", "cid", "c")
        self.assertEqual(world.rows("attic", "cid").told(), [("ann", 2, False, True, False, [])])


class WalkTest(unittest.TestCase):
    def test_on_its_way(self):
        world = done(*BEGUN)
        self.assertEqual((world.place("ann"), world.stay("ann")), (("hall", "attic"), 2))
        self.assertEqual(entries(world, "hall", "yard"), [(A, 1), (ROW_ECHO, 1)])
        self.assertEqual(entries(world, "hall", "attic"), [(GOER, 0)])
        self.assertEqual(world.links().busy(), [("hall", "yard"), ("hall", "attic")])
        self.assertEqual(world.post("hall", "ann").sign(), ("attic", 2))
        self.assertEqual(world.post("attic", "ann").sign(), ("hall", 1))
        self.assertEqual((world.place("bob"), world.place("cid"), world.stay("cid")), ("yard", "hall", 1))

    def test_at_the_goal(self):
        world = done(*BEGUN)
        self.assertEqual(world.hand("hall", "attic"), (GOER, 0))
        self.assertEqual((world.place("ann"), world.stay("ann")), ("attic", 2))
        self.assertEqual(entries(world, "attic", "hall"), [(CAME, 1)])
        self.assertEqual(world.post("attic", "ann").sign(), "here")
        self.assertEqual(world.rows("attic", "bob").told(), [("ann", 2, True, False, False, [])])

    def test_there_and_back(self):
        world = done(("walk", "ann", "yard"))
        world.quieted()
        self.assertIs(world.walk("ann", "hall"), None)
        self.assertEqual((world.place("ann"), world.stay("ann")), (("yard", "hall"), 3))
        world.quieted()
        self.assertEqual((world.place("ann"), world.stay("ann"), world.post("hall", "ann").last()), ("hall", 3, 3))

    def test_a_letter_behind_a_reader_that_walks_on(self):
        world = done(("write", "ann", "bob", "a"), ("walk", "bob", "attic"), ("hand", "hall", "yard"))
        self.assertEqual(entries(world, "yard", "attic"), [(("goer", "bob", 2, ()), 0), (A, 2)])
        world.hand("yard", "attic")
        self.assertEqual(world.hand("yard", "attic"), (A, 2))
        self.assertEqual(world.box("bob"), [("ann", "a")])


class HandTest(unittest.TestCase):
    def test_a_whole_course(self):
        world = done(*BEGUN)
        self.assertEqual(world.hand("hall", "yard"), (A, 1))
        self.assertEqual(world.box("bob"), [("ann", "a")])
        self.assertEqual(world.hand("hall", "yard"), (ROW_ECHO, 1))
        answer = ("answer", "bob", "row", ("ann", 2), ("yard", 1))
        self.assertEqual(entries(world, "yard", "attic"), [(answer, 0)])
        self.assertEqual(world.hand("yard", "attic"), (answer, 0))
        self.assertEqual(world.rows("attic", "bob").ahead(), [("ann", 2)])
        self.assertEqual(world.post("attic", "bob").news(), ("yard", 1))
        world.hand("hall", "attic")
        self.assertEqual((world.rows("attic", "bob").told(), world.rows("attic", "bob").ahead()), ([], []))
        self.assertEqual(world.hand("attic", "hall"), (CAME, 1))
        self.assertEqual(entries(world, "hall", "attic"), [(CAME, 2)])
        self.assertEqual(world.hand("hall", "attic"), (CAME, 2))
        self.assertIs(world.is_quiet(), True)
        self.assertEqual(world.post("attic", "ann").bars(), [])

    def test_parcels_on_a_shelf(self):
        world = done(("write", "bob", "ann", "a"), *BEGUN, ("hand", "yard", "hall"), ("hand", "hall", "attic"))
        self.assertEqual(world.hand("hall", "attic"), (("letter", "bob", "ann", "a"), 2))
        self.assertEqual(world.box("ann"), [("bob", "a")])
        world = done(("write", "bob", "cid", "a"), ("walk", "cid", "attic"), ("hand", "hall", "attic"),
                     ("write", "bob", "cid", "b"))
        self.assertEqual(entries(world, "yard", "hall"), [(("letter", "bob", "cid", "a"), 1), (("letter", "bob", "cid", "b"), 1)])

    def test_words_stand_in_the_order_in_which_they_are_read(self):
        world = done(("write", "ann", "bob", "a"), ("write", "cid", "bob", "b"), ("write", "bob", "bob", "c"))
        world.quieted()
        self.assertEqual(world.box("bob"), [("bob", "c"), ("ann", "a"), ("cid", "b")])


class AskTest(unittest.TestCase):
    def test_ask_and_shorten(self):
        world = done(("walk", "bob", "attic"))
        world.quieted()
        self.assertIs(world.ask("hall", "bob"), None)
        echo = ("echo", "bob", "hall", "ask", ("bob", 0))
        self.assertEqual(entries(world, "hall", "yard"), [(echo, 1)])
        self.assertEqual(world.hand("hall", "yard"), (echo, 1))
        self.assertEqual(world.hand("yard", "attic"), (echo, 2))
        world.hand("attic", "hall")
        self.assertEqual(world.post("hall", "bob").news(), ("attic", 2))
        self.assertIs(world.shorten("hall", "bob"), None)
        world.quieted()
        self.assertEqual(world.post("hall", "bob").sign(), ("attic", 2))
        world.write("ann", "bob", "a")
        self.assertEqual(entries(world, "hall", "attic"), [(A, 2)])


class DoTest(unittest.TestCase):
    def test_each_kind_of_deed(self):
        one, two = World(sample_map()), World(sample_map())
        self.assertIs(one.do(("write", "ann", "bob", "a")), None)
        two.write("ann", "bob", "a")
        self.assertEqual(one, two)
        self.assertIs(one.do(("walk", "bob", "attic")), None)
        two.walk("bob", "attic")
        self.assertEqual(one, two)
        self.assertEqual(one.do(("hand", "hall", "yard")), two.hand("hall", "yard"))
        self.assertEqual(one, two)
        one.quieted()
        two.quieted()
        self.assertIs(one.do(("ask", "hall", "bob")), None)
        two.ask("hall", "bob")
        self.assertEqual(one, two)
        one.quieted()
        two.quieted()
        self.assertIs(one.do(("short", "hall", "bob")), None)
        two.shorten("hall", "bob")
        self.assertEqual(one, two)
        self.assertEqual(one.history(), two.history())
        self.assertEqual([deed for deed in one.history() if deed[0] != "hand"],
                         [("write", "ann", "bob", "a"), ("walk", "bob", "attic"), ("ask", "hall", "bob"), ("short", "hall", "bob")])


class RefusedTest(unittest.TestCase):
    def assert_refused(self, deeds, call, error, **fields):
        """The deed is refused so, by its method and by `do`, and nothing is changed."""
        world = done(*deeds)
        before = world_picture(world)
        names = {"short": "shorten"}
        for told in (lambda: getattr(world, names.get(call[0], call[0]))(*call[1:]), lambda: world.do(call)):
            with self.assertRaises(error, msg=shown(call)) as caught:
                told()
            for name, field in fields.items():
                self.assertIs(getattr(caught.exception, name), field)
            self.assertEqual(world_picture(world), before)
        self.assertEqual(world, done(*deeds))

    def test_write(self):
        for who in no_walkers():
            self.assert_refused(BEGUN, ("write", who, "bob", "a"), NoSuch, who=who)
            self.assert_refused(BEGUN, ("write", "cid", who, "a"), NoSuch, who=who)
            self.assert_refused(BEGUN, ("write", who, "dan", []), NoSuch, who=who)
            self.assert_refused(BEGUN, ("write", "ann", who, []), NoSuch, who=who)

    def test_write_no_word(self):
        for word in ["", "A", "a b", "a" * 13, "a\n", "a_"] + no_texts():
            self.assert_refused(BEGUN, ("write", "cid", "bob", word), NoWord)
            self.assert_refused(BEGUN, ("write", "ann", "bob", word), NoWord)

    def test_write_away(self):
        self.assert_refused(BEGUN, ("write", "ann", "bob", "a"), Away, who="ann")
        self.assert_refused(BEGUN, ("write", "ann", "ann", "a"), Away, who="ann")
        done(*BEGUN).write("cid", "ann", "a")

    def test_walk(self):
        for who in no_walkers():
            self.assert_refused(BEGUN, ("walk", who, "yard"), NoSuch, who=who)
            self.assert_refused(BEGUN, ("walk", who, "barn"), NoSuch, who=who)
        for goal in no_hosts():
            self.assert_refused(BEGUN, ("walk", "cid", goal), NoSuch, who=goal)
            self.assert_refused(BEGUN, ("walk", "ann", goal), Away, who="ann")

    def test_walk_to_its_own_place(self):
        self.assert_refused(BEGUN, ("walk", "cid", "hall"), NoSuch, who="hall")
        self.assert_refused(BEGUN, ("walk", "bob", "yard"), NoSuch, who="yard")
        self.assert_refused(BEGUN + [("hand", "hall", "attic")], ("walk", "ann", "attic"), NoSuch, who="attic")

    def test_walk_away(self):
        for goal in HOSTS:
            self.assert_refused(BEGUN, ("walk", "ann", goal), Away, who="ann")

    def test_no_walk_is_refused_for_anything_that_waits(self):
        world = done(*BEGUN, ("hand", "hall", "attic"), ("write", "ann", "bob", "b"))
        self.assertEqual((len(world.rows("attic", "bob")), world.post("attic", "ann").height()), (1, 2))
        world.walk("ann", "hall")
        world.hand("attic", "hall")
        world.hand("attic", "hall")
        world.walk("ann", "yard")
        self.assertEqual(world.stay("ann"), 4)

    def test_ask_and_shorten(self):
        for word in ("ask", "short"):
            for host in no_hosts():
                self.assert_refused(BEGUN, (word, host, "bob"), NoSuch, who=host)
                self.assert_refused(BEGUN, (word, host, "dan"), NoSuch, who=host)
            for who in no_walkers():
                self.assert_refused(BEGUN, (word, "hall", who), NoSuch, who=who)
            self.assert_refused(BEGUN, (word, "yard", "bob"), Here, host="yard", walker="bob")
            self.assert_refused(BEGUN, (word, "hall", "cid"), Here, host="hall", walker="cid")

    def test_no_news(self):
        self.assert_refused(BEGUN, ("short", "hall", "bob"), NoNews, host="hall", walker="bob")
        self.assert_refused(BEGUN, ("short", "hall", "ann"), NoNews, host="hall", walker="ann")
        deeds = [("ask", "hall", "bob"), ("hand", "hall", "yard"), ("hand", "yard", "hall")]
        self.assertEqual(done(*deeds).post("hall", "bob").news(), ("yard", 1))
        self.assert_refused(deeds, ("short", "hall", "bob"), NoNews, host="hall", walker="bob")

    def test_begun(self):
        deeds = [("walk", "bob", "attic"), ("hand", "yard", "attic"), ("ask", "hall", "bob"), ("hand", "hall", "yard"),
                 ("hand", "yard", "attic"), ("hand", "attic", "yard"), ("hand", "yard", "attic"), ("hand", "attic", "hall"),
                 ("short", "hall", "bob")]
        self.assert_refused(deeds, ("short", "hall", "bob"), Begun, host="hall", walker="bob")
        world = done(*deeds)
        world.ask("hall", "bob")
        self.assertEqual(len(world.post("hall", "bob").bars()), 2)

    def test_hand(self):
        for host in no_hosts():
            self.assert_refused(BEGUN, ("hand", host, "yard"), NoSuch, who=host)
            self.assert_refused(BEGUN, ("hand", host, "barn"), NoSuch, who=host)
            self.assert_refused(BEGUN, ("hand", "hall", host), NoSuch, who=host)
        self.assert_refused(BEGUN, ("hand", "hall", "hall"), NoSuch, who="hall")
        self.assert_refused(BEGUN, ("hand", "yard", "attic"), Still, source="yard", goal="attic")
        self.assert_refused([], ("hand", "hall", "yard"), Still, source="hall", goal="yard")

    def test_what_is_asked(self):
        world = done(*BEGUN)
        before = world_picture(world)
        for who in no_walkers():
            for call in (lambda: world.box(who), lambda: world.place(who), lambda: world.stay(who),
                         lambda: world.post("hall", who), lambda: world.shelf("hall", who), lambda: world.rows("hall", who)):
                with self.assertRaises(NoSuch, msg=shown(who)) as caught:
                    call()
                self.assertIs(caught.exception.who, who)
        for host in no_hosts():
            for walker in ("bob", "dan"):
                for call in (lambda: world.post(host, walker), lambda: world.shelf(host, walker),
                             lambda: world.rows(host, walker)):
                    with self.assertRaises(NoSuch, msg=shown(host)) as caught:
                        call()
                    self.assertIs(caught.exception.who, host)
        self.assertEqual(world_picture(world), before)


class OwnListsTest(unittest.TestCase):
    def test_told_and_then_changed(self):
        world = done(*BEGUN, ("hand", "hall", "yard"), ("hand", "hall", "attic"))
        world.run([("write", "ann", "bob", "b")])
        before = world_picture(world)
        for name in NAMES:
            world.box(name).append(("ann", "z"))
            for host in HOSTS:
                world.post(host, name).sent("ask", (name, 0), first=1)
                world.shelf(host, name).put(1, A)
                world.rows(host, name).put("ann", 1, A)
        world.links().put("hall", "yard", A)
        world.links().take("attic", "hall")
        world.history().clear()
        world.log().clear()
        world.box("bob").clear()
        self.assertEqual(world_picture(world), before)

    def test_no_two_told_lists_are_one(self):
        world = done(*BEGUN)
        for call in (lambda: world.box("ann"), lambda: world.history(), lambda: world.log(), lambda: world.links(),
                     lambda: world.post("hall", "ann"), lambda: world.shelf("hall", "ann"), lambda: world.rows("hall", "ann")):
            self.assertIsNot(call(), call())
            self.assertEqual(call(), call())
        self.assertIsNot(world.box("ann"), world.box("bob"))

    def test_what_was_told_stays(self):
        world = done(*BEGUN)
        box, history, links = world.box("bob"), world.history(), world.links()
        world.quieted()
        self.assertEqual((box, history, links), ([], BEGUN, done(*BEGUN).links()))

    def test_no_world_knows_of_another_one(self):
        grounds = sample_map()
        one, two = World(grounds), World(grounds)
        one.run(BEGUN)
        one.quieted()
        self.assertEqual(world_picture(two), world_picture(World(sample_map())))
        self.assertEqual(world_picture(World(grounds)), world_picture(World(sample_map())))
        self.assertEqual(grounds, sample_map())


if __name__ == "__main__":
    unittest.main()
