"""Plans under way: moves, what is no move, left, outcome, copies, keys."""

import itertools
import random
import unittest

from tests.helper import NAMES, Stranger, drawn_map, no_texts, no_walkers, sample_map, shown, world_picture
from walkbox.errors import NoSuch
from walkbox.plans import Course, Plan
from walkbox.worlds import World

ROWS = [("cid", [("write", "bob", "a"), ("walk", "hall"), ("walk", "yard"), ("write", "bob", "b")]),
        ("bob", [("walk", "attic"), ("write", "cid", "c")])]


def sample(rows=None):
    return Course(Plan(sample_map(), ROWS if rows is None else rows))


def gone(*moves):
    course = sample()
    for move in moves:
        course.go(move)
    return course


def picture(course):
    """All that a course tells."""
    names = course.world().grounds().walkers()
    return world_picture(course.world()), course.moves(), [course.left(name) for name in names], course.outcome(), course.key()


def drawn_plan(draw, most):
    """A plan of a drawn map, with at most so many deeds of each walker."""
    grounds = drawn_map(draw)
    hosts, names = grounds.hosts(), grounds.walkers()
    rows = []
    for name in draw.sample(names, draw.randint(1, len(names))):
        deeds = [("walk", draw.choice(hosts)) if draw.random() < 0.5 else ("write", draw.choice(names), f"w{number}")
                 for number in range(draw.randint(0, most))]
        rows.append((name, deeds))
    return Plan(grounds, rows)


class BesideAWorld:
    """A world in which the same is done as in a course, and the deeds that are left."""

    def __init__(self, plan):
        self.world = World(plan.grounds())
        self.left = {name: [] for name in plan.grounds().walkers()}
        for name, deeds in plan.rows():
            self.left[name] = deeds

    def moves(self):
        names = [name for name in self.world.grounds().walkers()
                 if self.left[name] and isinstance(self.world.place(name), str)]
        return names + self.world.links().busy()

    def go(self, move):
        if isinstance(move, tuple):
            self.world.hand(*move)
            return
        word, *parts = self.left[move].pop(0)
        if word == "write":
            self.world.write(move, *parts)
        elif parts[0] != self.world.place(move):
            self.world.walk(move, parts[0])

    def outcome(self):
        return tuple((name, tuple(self.world.box(name))) for name in self.world.grounds().walkers())


class MovesTest(unittest.TestCase):
    def test_at_first(self):
        course = sample()
        self.assertEqual(course.world(), World(sample_map()))
        self.assertEqual(course.moves(), ["bob", "cid"])
        self.assertEqual([course.left(name) for name in NAMES], [2, 0, 4])
        self.assertEqual(course.outcome(), (("bob", ()), ("ann", ()), ("cid", ())))

    def test_without_deeds(self):
        course = sample([])
        self.assertEqual((course.moves(), course.left("ann")), ([], 0))
        self.assertEqual(sample([("ann", [])]).moves(), [])

    def test_step_by_step(self):
        course = sample()
        self.assertIs(course.go("cid"), None)
        self.assertEqual((course.moves(), course.left("cid")), (["bob", "cid", ("hall", "yard")], 3))
        # A walk to where it is comes to nothing.
        before = course.world()
        course.go("cid")
        self.assertEqual((course.moves(), course.left("cid")), (["bob", "cid", ("hall", "yard")], 2))
        self.assertEqual(course.world(), before)
        self.assertEqual(course.world().history(), [("write", "cid", "bob", "a")])
        # On its way a walker can't move.
        course.go("cid")
        self.assertEqual((course.moves(), course.left("cid")), (["bob", ("hall", "yard")], 1))
        self.assertEqual(course.world().place("cid"), ("hall", "yard"))
        self.assertIs(course.go(("hall", "yard")), None)
        self.assertEqual(course.world().box("bob"), [("cid", "a")])
        course.go("bob")
        self.assertEqual(course.moves(), [("hall", "yard"), ("yard", "attic")])
        self.assertEqual(course.left("bob"), 1)

    def test_busy_links_in_order(self):
        course = gone("cid", "cid", "cid", "bob")
        self.assertEqual(course.moves(), [("hall", "yard"), ("yard", "attic")])

    def test_a_walker_with_deeds_behind_its_way(self):
        course = gone("bob", ("yard", "attic"))
        self.assertEqual(course.moves(), ["bob", "cid", ("attic", "yard")])
        course.go("bob")
        self.assertEqual((course.moves(), course.left("bob")), (["cid", ("attic", "hall"), ("attic", "yard")], 0))

    def test_beside_a_world(self):
        for seed in range(40):
            draw = random.Random(seed)
            plan = drawn_plan(draw, 6)
            course, beside = Course(plan), BesideAWorld(plan)
            while course.moves():
                self.assertEqual(course.moves(), beside.moves())
                move = draw.choice(course.moves())
                course.go(move)
                beside.go(move)
                self.assertEqual(course.world(), beside.world)
                self.assertEqual(course.world().history(), beside.world.history())
                self.assertEqual({name: course.left(name) for name in beside.left},
                                 {name: len(deeds) for name, deeds in beside.left.items()})
                self.assertEqual(course.outcome(), beside.outcome())
            self.assertEqual(beside.moves(), [])
            self.assertIs(course.world().is_quiet(), True)
            self.assertEqual(sum(course.left(name) for name in beside.left), 0)

    def test_kinds(self):
        course = gone("cid")
        self.assertEqual([type(move) for move in course.moves()], [str, str, tuple])
        self.assertIs(type(course.moves()), list)
        self.assertIs(type(course.outcome()), tuple)
        self.assertEqual([type(row) for row in course.outcome()], [tuple] * 3)
        self.assertIs(type(course.key()), str)

    def test_by_names(self):
        course = Course(plan=Plan(sample_map(), ROWS))
        course.go(move="cid")
        self.assertEqual(course.left(walker="cid"), 3)


class RefusedTest(unittest.TestCase):
    def assert_no_moves(self, course, moves):
        before = picture(course)
        for move in moves:
            with self.assertRaises(NoSuch, msg=shown(move)) as caught:
                course.go(move)
            self.assertIs(caught.exception.who, move)
        self.assertEqual(picture(course), before)

    def test_what_is_no_move(self):
        strange = no_texts() + ["", "dan", "hall", "Ann", "ann ", "cid\n", "hall yard", ("hall", "yard", "attic"), ("hall",),
                                ["hall", "yard"], {"hall": "yard"}, ("hall", ["yard"]), (("hall", "yard"),), ("dan", "hall"),
                                (Stranger(), Stranger()), (Stranger(), "yard"), ("hall", Stranger()), ("hall", "hall")]
        for course in (sample(), gone("cid"), gone("cid", "bob")):
            self.assert_no_moves(course, strange)

    def test_links_that_are_not_busy(self):
        links = list(itertools.permutations(["hall", "yard", "attic"], 2))
        self.assert_no_moves(sample(), links)
        self.assert_no_moves(gone("cid"), [link for link in links if link != ("hall", "yard")])
        self.assert_no_moves(gone("cid", ("hall", "yard")), links)

    def test_walkers_that_can_not(self):
        self.assert_no_moves(sample(), ["ann"])
        self.assert_no_moves(gone("bob"), ["bob", "ann"])
        self.assert_no_moves(gone("bob", ("yard", "attic"), "bob"), ["bob", "ann"])

    def test_left_of_none(self):
        course = gone("cid")
        for who in no_walkers():
            with self.assertRaises(NoSuch, msg=shown(who)) as caught:
                course.left(who)
            self.assertIs(caught.exception.who, who)


class OutcomeTest(unittest.TestCase):
    def test_midway_and_at_the_end(self):
        course = gone("cid", ("hall", "yard"))
        self.assertEqual(course.outcome(), (("bob", (("cid", "a"),)), ("ann", ()), ("cid", ())))
        while course.moves():
            course.go(course.moves()[0])
        self.assertEqual(course.outcome(), (("bob", (("cid", "a"), ("cid", "b"))), ("ann", ()), ("cid", (("bob", "c"),))))


class OwnListsTest(unittest.TestCase):
    def test_told_and_then_changed(self):
        course = gone("cid")
        before = picture(course)
        course.moves().clear()
        course.world().hand("hall", "yard")
        course.world().history().clear()
        self.assertEqual(picture(course), before)
        self.assertIsNot(course.moves(), course.moves())
        self.assertIsNot(course.world(), course.world())

    def test_a_told_world_goes_its_own_way(self):
        course = gone("cid")
        world = course.world()
        course.go(("hall", "yard"))
        self.assertEqual(world.box("bob"), [])
        self.assertEqual(world, gone("cid").world())

    def test_the_plan_is_not_changed(self):
        plan = Plan(sample_map(), ROWS)
        course, other = Course(plan), Course(plan)
        while course.moves():
            course.go(course.moves()[0])
        self.assertEqual(plan, Plan(sample_map(), ROWS))
        self.assertEqual(picture(other), picture(sample()))

    def test_lists_of_the_plan_changed_behind(self):
        deeds = [("write", "bob", "a")]
        plan = Plan(sample_map(), [("cid", deeds)])
        course = Course(plan)
        deeds.clear()
        plan.rows()[0][1].clear()
        self.assertEqual(course.left("cid"), 1)


class CopiesTest(unittest.TestCase):
    def test_a_copy_stands_alike(self):
        course = gone("cid", "cid", "bob")
        twin = course.copied()
        self.assertIs(type(twin), Course)
        self.assertEqual(picture(twin), picture(course))

    def test_each_goes_its_own_way(self):
        for at in range(2):
            pair = [gone("cid", "cid")]
            pair.append(pair[0].copied())
            before = picture(gone("cid", "cid"))
            while pair[at].moves():
                pair[at].go(pair[at].moves()[-1])
                self.assertEqual(picture(pair[1 - at]), before)
            self.assertEqual([pair[at].left(name) for name in NAMES], [0, 0, 0])
            while pair[1 - at].moves():
                pair[1 - at].go(pair[1 - at].moves()[-1])
            self.assertEqual(picture(pair[0]), picture(pair[1]))


class KeysTest(unittest.TestCase):
    def test_alike_just_where_worlds_and_deeds_left_are(self):
        alike = 0
        for rows in (ROWS, [("ann", [("walk", "hall"), ("write", "cid", "a"), ("walk", "hall")]), ("cid", [("walk", "hall")] * 2)],
                     [("ann", [("write", "ann", "a")] * 2), ("bob", [("write", "cid", "b")])]):
            courses = []
            for seed in range(12):
                draw, course = random.Random(seed), sample(rows)
                while course.moves():
                    courses.append(course.copied())
                    course.go(draw.choice(course.moves()))
                courses.append(course)
            states = [(course.world(), [course.left(name) for name in NAMES], course.key()) for course in courses[:90]]
            for one, two in itertools.combinations(states, 2):
                self.assertEqual(one[:2] == two[:2], one[2] == two[2])
                alike += one[2] == two[2]
        self.assertGreater(alike, 100)

    def test_deeds_left_alone(self):
        # Nothing happens, and yet the courses are unlike; so are those of unlike walkers.
        rows = [("ann", [("walk", "hall")] * 2), ("cid", [("walk", "hall")] * 2)]
        courses = [sample(rows) for _ in range(4)]
        courses[1].go("ann")
        courses[2].go("cid")
        courses[3].go("ann")
        courses[3].go("cid")
        self.assertEqual({course.world().key() for course in courses}, {World(sample_map()).key()})
        self.assertEqual(len({course.key() for course in courses}), 4)

    def test_the_way_has_no_bearing(self):
        self.assertEqual(gone("cid", "bob").key(), gone("bob", "cid").key())


if __name__ == "__main__":
    unittest.main()
