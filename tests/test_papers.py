"""Papers: holder, whereabouts, paper and row paper."""

import unittest

from tests.helper import HOSTS, NAMES, drawn_worlds, no_hosts, no_walkers, sample_map, shown, world_picture
from walkbox.errors import NoSuch
from walkbox.papers import holder, paper, row_paper, whereabouts
from walkbox.worlds import World

COURSES = 25

# Ann goes to yard, to attic and back to hall; the echo of her coming to yard waits at hall, for her coming there.
BACK = [("walk", "ann", "yard"), ("hand", "hall", "yard"), ("walk", "ann", "attic"), ("hand", "yard", "attic"),
        ("walk", "ann", "hall"), ("hand", "attic", "hall"), ("hand", "attic", "hall"), ("hand", "yard", "hall")]

# Ann writes to bob and walks, twice: two rows of hers for him are shut.
TWICE = [("write", "ann", "bob", "a"), ("walk", "ann", "attic"), ("hand", "hall", "attic"), ("write", "ann", "bob", "b"),
         ("walk", "ann", "hall"), ("hand", "attic", "hall"), ("hand", "attic", "hall")]

# Hall has heard that bob is at attic, and shortens the way to him.
SHORT = [("walk", "bob", "attic"), ("hand", "yard", "attic"), ("hand", "attic", "yard"), ("hand", "yard", "attic"),
         ("ask", "hall", "bob"), ("hand", "hall", "yard"), ("hand", "yard", "attic"), ("hand", "attic", "hall"),
         ("short", "hall", "bob")]


def done(*deeds):
    world = World(sample_map())
    for deed in deeds:
        world.do(deed)
    return world


class HolderTest(unittest.TestCase):
    def test_none(self):
        for world in (done(), done(*BACK[:1])):
            for host in HOSTS:
                for name in NAMES:
                    self.assertIs(holder(world, host, name), None)

    def test_none_where_the_height_is_nought(self):
        world = done(("ask", "hall", "bob"))
        self.assertEqual(len(world.post("hall", "bob").bars()), 1)
        self.assertIs(holder(world, "hall", "bob"), None)

    def test_came(self):
        world = done(*BACK)
        self.assertEqual(holder(world, "yard", "ann"), ("came", ("ann", 2), 1))
        self.assertEqual(holder(world, "hall", "ann"), ("came", ("ann", 4), 2))
        self.assertEqual(holder(world, "attic", "ann"), ("came", ("ann", 3), 1))
        self.assertIs(holder(world, "hall", "bob"), None)

    def test_short(self):
        world = done(*SHORT)
        self.assertEqual(holder(world, "hall", "bob"), ("short", ("attic", 2), 1))
        world.ask("hall", "bob")
        self.assertEqual(holder(world, "hall", "bob"), ("short", ("attic", 2), 1))

    def test_the_highest_of_several(self):
        # Bob comes to hall while the way to him is shortened.
        world = done(*SHORT, ("walk", "bob", "hall"), ("hand", "attic", "hall"))
        self.assertEqual(world.post("hall", "bob").bars(), [("short", ("attic", 2), 1), ("came", ("bob", 3), 1)])
        self.assertEqual(holder(world, "hall", "bob"), ("came", ("bob", 3), 1))
        world.quieted()
        self.assertIs(holder(world, "hall", "bob"), None)

    def test_by_names(self):
        self.assertEqual(holder(walker="ann", host="yard", world=done(*BACK)), ("came", ("ann", 2), 1))


class WhereaboutsTest(unittest.TestCase):
    def test_on_a_link(self):
        world = done(*BACK[:2])
        self.assertEqual(whereabouts(world, "yard", "ann", "came", ("ann", 2)), ("link", "yard", "hall", 0))
        world.walk("ann", "hall")
        world.write("bob", "ann", "a")
        self.assertEqual(whereabouts(world, "yard", "ann", "came", ("ann", 2)), ("link", "yard", "hall", 0))

    def test_its_place_on_the_link(self):
        world = done(*TWICE[:2])
        self.assertEqual(whereabouts(world, "attic", "bob", "row", ("ann", 2)), ("link", "hall", "yard", 1))
        world.hand("hall", "yard")
        self.assertEqual(whereabouts(world, "attic", "bob", "row", ("ann", 2)), ("link", "hall", "yard", 0))

    def test_its_answer_on_a_link(self):
        world = done(*TWICE[:2], ("hand", "hall", "yard"), ("hand", "hall", "yard"))
        self.assertEqual(world.links().entries("yard", "attic")[0][0][0], "answer")
        self.assertEqual(whereabouts(world, "attic", "bob", "row", ("ann", 2)), ("link", "yard", "attic", 0))
        world.hand("yard", "attic")
        self.assertIs(whereabouts(world, "attic", "bob", "row", ("ann", 2)), None)

    def test_the_answer_of_a_short(self):
        world = done(*SHORT)
        self.assertEqual(whereabouts(world, "hall", "bob", "short", ("attic", 2)), ("link", "hall", "yard", 0))
        world.hand("hall", "yard")
        self.assertEqual(whereabouts(world, "hall", "bob", "short", ("attic", 2)), ("link", "yard", "attic", 0))
        world.hand("yard", "attic")
        self.assertEqual(whereabouts(world, "hall", "bob", "short", ("attic", 2)), ("link", "attic", "hall", 0))
        world.write("bob", "cid", "a")
        world.hand("attic", "hall")
        self.assertIs(whereabouts(world, "hall", "bob", "short", ("attic", 2)), None)

    def test_an_answer_to_another_host_is_none(self):
        world = done(*SHORT, ("hand", "hall", "yard"), ("hand", "yard", "attic"))
        self.assertEqual(world.links().busy(), [("attic", "hall")])
        for host in ("yard", "attic"):
            self.assertIs(whereabouts(world, host, "bob", "short", ("attic", 2)), None)

    def test_another_answer_on_the_link_is_none(self):
        world = done(*SHORT[:7])
        answer = ("answer", "bob", "ask", ("bob", 0), ("attic", 2))
        self.assertEqual(world.links().entries("attic", "hall"), [(answer, 0)])
        for walker, sort, mark in [("bob", "short", ("attic", 2)), ("bob", "row", ("bob", 0)), ("ann", "ask", ("bob", 0)),
                                   ("bob", "ask", ("ann", 0)), ("bob", "ask", ("bob", 1))]:
            self.assertIs(whereabouts(world, "hall", walker, sort, mark), None)

    def test_on_a_shelf(self):
        world = done(*BACK)
        self.assertEqual(whereabouts(world, "yard", "ann", "came", ("ann", 2)), ("shelf", "hall", 1))

    def test_in_a_row(self):
        world = done(*TWICE)
        self.assertEqual(whereabouts(world, "hall", "bob", "row", ("ann", 3)), ("row", "attic", "ann", 2))

    def test_nowhere(self):
        world = done(*TWICE)
        for host, walker, sort, mark in [("attic", "bob", "row", ("ann", 3)), ("hall", "ann", "row", ("ann", 3)),
                                         ("hall", "bob", "came", ("ann", 3)), ("hall", "bob", "row", ("bob", 3)),
                                         ("hall", "bob", "row", ("ann", 4)), ("hall", "bob", "short", ("ann", 3))]:
            self.assertIs(whereabouts(world, host, walker, sort, mark), None)
        self.assertIs(whereabouts(done(), "hall", "bob", "row", ("ann", 3)), None)

    def test_by_names(self):
        self.assertEqual(whereabouts(mark=("ann", 3), sort="row", walker="bob", host="hall", world=done(*TWICE)),
                         ("row", "attic", "ann", 2))


class PaperTest(unittest.TestCase):
    def test_none(self):
        for host in HOSTS:
            for name in NAMES:
                self.assertIs(paper(done(), host, name), None)
        self.assertIs(paper(done(("ask", "hall", "bob")), "hall", "bob"), None)

    def test_one_step(self):
        world = done(*BACK[:2])
        self.assertEqual(paper(world, "yard", "ann"), ([("yard", "came", ("ann", 2), 1)], ("link", "yard", "hall", 0)))
        world = done(*SHORT)
        self.assertEqual(paper(world, "hall", "bob"), ([("hall", "short", ("attic", 2), 1)], ("link", "hall", "yard", 0)))
        world.hand("hall", "yard")
        world.hand("yard", "attic")
        self.assertEqual(paper(world, "hall", "bob"), ([("hall", "short", ("attic", 2), 1)], ("link", "attic", "hall", 0)))

    def test_two_steps(self):
        world = done(*BACK)
        self.assertEqual(paper(world, "yard", "ann"), ([("yard", "came", ("ann", 2), 1), ("hall", "came", ("ann", 4), 2)],
                                                       ("link", "hall", "yard", 1)))
        self.assertEqual(paper(world, "hall", "ann"), ([("hall", "came", ("ann", 4), 2)], ("link", "hall", "yard", 1)))
        self.assertEqual(paper(world, "attic", "ann"), ([("attic", "came", ("ann", 3), 1)], ("link", "hall", "yard", 0)))

    def test_three_steps(self):
        world = done(("walk", "ann", "attic"), ("hand", "hall", "attic"), ("walk", "ann", "hall"), ("hand", "attic", "hall"),
                     ("hand", "attic", "hall"), ("walk", "ann", "yard"), ("hand", "hall", "yard"), ("walk", "ann", "attic"),
                     ("hand", "yard", "hall"), ("hand", "yard", "attic"), ("hand", "hall", "attic"), ("hand", "hall", "attic"))
        steps = [("yard", "came", ("ann", 4), 1), ("hall", "came", ("ann", 3), 2), ("attic", "came", ("ann", 5), 3)]
        end = ("link", "attic", "hall", 0)
        self.assertEqual(paper(world, "yard", "ann"), (steps, end))
        self.assertEqual(paper(world, "hall", "ann"), (steps[1:], end))
        self.assertEqual(paper(world, "attic", "ann"), (steps[2:], end))

    def test_by_names(self):
        self.assertEqual(paper(walker="ann", host="hall", world=done(*BACK)), paper(done(*BACK), "hall", "ann"))

    def test_along_drawn_courses(self):
        most = 0
        for seed in range(COURSES):
            for world, _ in drawn_worlds(seed, 90):
                for host in world.grounds().hosts():
                    for name in world.grounds().walkers():
                        most = max(most, self.assert_paper(world, host, name))
        self.assertGreaterEqual(most, 3)

    def assert_paper(self, world, host, walker):
        """The paper is as the document says; told is how many steps it has."""
        told, post = paper(world, host, walker), world.post(host, walker)
        if post.height() == 0:
            self.assertEqual((told, world.shelf(host, walker).told()), (None, []))
            return 0
        steps, end = told
        self.assertEqual(steps[0][0], host)
        for at, (place, sort, mark, first) in enumerate(steps):
            self.assertEqual((sort, mark, first), holder(world, place, walker))
            self.assertEqual(mark[1], world.post(place, walker).height())
            where = whereabouts(world, place, walker, sort, mark)
            if at + 1 < len(steps):
                self.assertEqual(where[:2], ("shelf", steps[at + 1][0]))
                self.assertLess(where[2], steps[at + 1][2][1])
                self.assertLess(first, steps[at + 1][3])
            else:
                self.assertEqual((where, where[0]), (end, "link"))
        self.assertIn(end[1:3], world.links().busy())
        return len(steps)


class RowPaperTest(unittest.TestCase):
    def test_none(self):
        self.assertIs(row_paper(done(), "ann", 1, "bob"), None)
        # A row that is there and not shut; a goer that hasn't come yet.
        world = done(*TWICE[:2])
        self.assertIs(row_paper(world, "ann", 2, "bob"), None)
        self.assertIs(row_paper(done(("write", "ann", "bob", "a")), "ann", 1, "bob"), None)
        for writer, stay, walker in [("ann", 3, "bob"), ("ann", 1, "bob"), ("cid", 2, "bob"), ("ann", 2, "cid")]:
            self.assertIs(row_paper(done(*TWICE[:3]), writer, stay, walker), None)

    def test_one_step(self):
        world = done(*TWICE[:3])
        self.assertEqual(row_paper(world, "ann", 2, "bob"), ([("attic", 2)], ("link", "hall", "yard", 1)))
        world.hand("hall", "yard")
        self.assertEqual(row_paper(world, "ann", 2, "bob"), ([("attic", 2)], ("link", "hall", "yard", 0)))
        world.hand("hall", "yard")
        self.assertEqual(row_paper(world, "ann", 2, "bob"), ([("attic", 2)], ("link", "yard", "attic", 0)))
        world.hand("yard", "attic")
        self.assertIs(row_paper(world, "ann", 2, "bob"), None)

    def test_two_steps(self):
        world = done(*TWICE)
        self.assertEqual(row_paper(world, "ann", 3, "bob"), ([("hall", 3), ("attic", 2)], ("link", "hall", "yard", 1)))
        self.assertEqual(row_paper(world, "ann", 2, "bob"), ([("attic", 2)], ("link", "hall", "yard", 1)))

    def test_three_steps(self):
        world = done(("write", "ann", "bob", "a"), ("walk", "ann", "attic"), ("hand", "hall", "attic"), ("walk", "ann", "yard"),
                     ("hand", "attic", "yard"), ("walk", "ann", "attic"), ("hand", "yard", "attic"))
        steps, end = [("attic", 4), ("yard", 3), ("attic", 2)], ("link", "hall", "yard", 1)
        self.assertEqual(row_paper(world, "ann", 4, "bob"), (steps, end))
        self.assertEqual(row_paper(world, "ann", 3, "bob"), (steps[1:], end))
        self.assertEqual(row_paper(world, "ann", 2, "bob"), (steps[2:], end))

    def test_end_on_a_shelf(self):
        world = done(*TWICE[:3], ("walk", "bob", "attic"), ("hand", "yard", "attic"), ("walk", "bob", "yard"),
                     ("hand", "attic", "yard"), ("hand", "attic", "yard"), ("hand", "hall", "yard"), ("hand", "hall", "yard"))
        self.assertEqual(row_paper(world, "ann", 2, "bob"), ([("attic", 2)], ("shelf", "yard", 1)))

    def test_end_in_a_row_that_is_not_shut(self):
        world = done(("walk", "bob", "hall"), ("hand", "yard", "hall"), ("write", "ann", "bob", "a"), ("walk", "ann", "attic"),
                     ("hand", "hall", "attic"))
        self.assertEqual(row_paper(world, "ann", 2, "bob"), ([("attic", 2)], ("row", "hall", "ann", 1)))

    def test_by_names(self):
        self.assertEqual(row_paper(walker="bob", stay=2, writer="ann", world=done(*TWICE)),
                         ([("attic", 2)], ("link", "hall", "yard", 1)))

    def test_along_drawn_courses(self):
        most, kinds = 0, set()
        for seed in range(COURSES):
            for world, _ in drawn_worlds(seed, 90):
                for steps, end in self.row_papers(world):
                    most = max(most, len(steps))
                    kinds.add(end[0])
        self.assertGreaterEqual(most, 3)
        self.assertEqual(kinds, {"link", "shelf", "row"})

    def row_papers(self, world):
        """The row papers of all rows that are shut, each looked through."""
        papers = []
        for host in world.grounds().hosts():
            for name in world.grounds().walkers():
                for writer, stay, shut, *_ in world.rows(host, name).told():
                    told = row_paper(world, writer, stay, name)
                    self.assertEqual(told is not None, shut)
                    if shut:
                        self.assert_row_paper(world, writer, name, (host, stay), told)
                        papers.append(told)
        return papers

    def assert_row_paper(self, world, writer, name, first, told):
        steps, end = told
        self.assertEqual(steps[0], first)
        for at, (place, stay) in enumerate(steps):
            self.assertIn((writer, stay, True), [row[:3] for row in world.rows(place, name).told()])
            where = whereabouts(world, place, name, "row", (writer, stay))
            if at + 1 < len(steps):
                self.assertEqual(where, ("row", steps[at + 1][0], writer, steps[at + 1][1]))
                self.assertEqual(steps[at + 1][1], stay - 1)
        self.assertEqual(where, end)
        if end[0] == "row":
            self.assertNotIn((*end[2:], True), [row[:3] for row in world.rows(end[1], name).told()])


class RefusedTest(unittest.TestCase):
    def assert_no_such(self, call, who):
        with self.assertRaises(NoSuch, msg=shown(who)) as caught:
            call()
        self.assertIs(caught.exception.who, who)

    def test_host_then_walker(self):
        world = done(*BACK)
        before = world_picture(world)
        for host in no_hosts():
            for walker in ("ann", "dan"):
                self.assert_no_such(lambda: holder(world, host, walker), host)
                self.assert_no_such(lambda: paper(world, host, walker), host)
                self.assert_no_such(lambda: whereabouts(world, host, walker, "came", ("ann", 2)), host)
        for walker in no_walkers():
            self.assert_no_such(lambda: holder(world, "hall", walker), walker)
            self.assert_no_such(lambda: paper(world, "hall", walker), walker)
            self.assert_no_such(lambda: whereabouts(world, "hall", walker, "came", ("ann", 2)), walker)
            self.assert_no_such(lambda: whereabouts(world, "hall", walker, "came", ("ann", 4)), walker)
        self.assertEqual(world_picture(world), before)

    def test_writer_then_walker(self):
        world = done(*TWICE)
        for who in no_walkers():
            self.assert_no_such(lambda: row_paper(world, who, 2, "bob"), who)
            self.assert_no_such(lambda: row_paper(world, who, 2, "dan"), who)
            self.assert_no_such(lambda: row_paper(world, "ann", 2, who), who)


class OwnListsTest(unittest.TestCase):
    def test_told_lists_changed_behind(self):
        world = done(*BACK)
        before = world_picture(world)
        told = paper(world, "yard", "ann")
        told[0].clear()
        self.assertEqual(len(paper(world, "yard", "ann")[0]), 2)
        self.assertIsNot(paper(world, "yard", "ann")[0], paper(world, "yard", "ann")[0])
        self.assertEqual(world_picture(world), before)

    def test_told_row_lists_changed_behind(self):
        world = done(*TWICE)
        before = world_picture(world)
        row_paper(world, "ann", 3, "bob")[0].clear()
        self.assertEqual(row_paper(world, "ann", 3, "bob")[0], [("hall", 3), ("attic", 2)])
        self.assertEqual(world_picture(world), before)

    def test_the_world_as_it_was(self):
        for deeds in (BACK, TWICE, SHORT):
            world = done(*deeds)
            before = world_picture(world)
            for host in HOSTS:
                for name in NAMES:
                    holder(world, host, name)
                    paper(world, host, name)
                    whereabouts(world, host, name, "came", (name, 2))
                    row_paper(world, name, 2, "bob")
            self.assertEqual(world_picture(world), before)
            self.assertEqual(world, done(*deeds))

    def test_kinds(self):
        told = paper(done(*BACK), "yard", "ann")
        self.assertEqual([type(part) for part in told], [list, tuple])
        self.assertEqual([type(step) for step in told[0]], [tuple, tuple])
        told = row_paper(done(*TWICE), "ann", 3, "bob")
        self.assertEqual(([type(part) for part in told], type(told[0][0])), ([list, tuple], tuple))


if __name__ == "__main__":
    unittest.main()
