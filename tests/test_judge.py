"""The judge: how many courses, outcomes with their ways, what stands, the limit."""

import itertools
import random
import unittest

from tests.helper import drawn_map, sample_map
from walkbox.errors import TooMany
from walkbox.judge import LIMIT, Verdict, judged
from walkbox.maps import Map
from walkbox.plans import Course, Plan

# Both write to bob over the same link.
TWO = [("ann", [("write", "bob", "a"), ("write", "bob", "b")]), ("cid", [("write", "bob", "c"), ("write", "bob", "d")])]

# A reader that walks while it is written to, by one that walks as well.
WALKS = [("ann", [("write", "bob", "a"), ("walk", "yard"), ("write", "bob", "b")]), ("bob", [("walk", "attic"), ("walk", "hall")])]

# The same with a second writer.
THREE = [("ann", [("write", "bob", "a"), ("walk", "yard"), ("write", "bob", "b")]), ("bob", [("walk", "attic")]),
         ("cid", [("write", "bob", "c")])]


def plan_of(rows):
    return Plan(sample_map(), rows)


def standing(world):
    """How many parcels stand on all shelves and in all rows."""
    grounds = world.grounds()
    return sum(len(world.shelf(host, name)) + len(world.rows(host, name))
               for host in grounds.hosts() for name in grounds.walkers())


def by_hand(plan):
    """What the judge tells, by the words of the document: worlds are compared, and not their keys."""
    names = plan.grounds().walkers()
    courses, seen, outcomes, greatest = [(Course(plan), [])], [], [], 0
    seen.append((courses[0][0].world(), [courses[0][0].left(name) for name in names]))
    for course, way in courses:
        greatest = max(greatest, standing(course.world()))
        if not course.moves() and course.outcome() not in [outcome for outcome, _ in outcomes]:
            outcomes.append((course.outcome(), way))
        for move in course.moves():
            twin = course.copied()
            twin.go(move)
            state = (twin.world(), [twin.left(name) for name in names])
            if state not in seen:
                seen.append(state)
                courses.append((twin, way + [move]))
    return len(courses), outcomes, greatest


def told(verdict):
    return verdict.many(), verdict.outcomes(), verdict.greatest()


def merges(one, two):
    """All rows of both in which each stands in order."""
    if not one or not two:
        return [one + two]
    return [one[:1] + rest for rest in merges(one[1:], two)] + [two[:1] + rest for rest in merges(one, two[1:])]


class JudgedTest(unittest.TestCase):
    def test_limit_and_kinds(self):
        self.assertEqual(LIMIT, 2000)
        verdict = judged(plan_of(TWO))
        self.assertIs(type(verdict), Verdict)
        self.assertEqual([type(part) for part in told(verdict)], [int, list, int])
        for row in verdict.outcomes():
            self.assertEqual((type(row), type(row[0]), type(row[1])), (tuple, tuple, list))

    def test_without_deeds(self):
        empty = ((("bob", ()), ("ann", ()), ("cid", ())), [])
        for rows in ([], [("ann", [])]):
            self.assertEqual(told(judged(plan_of(rows))), (1, [empty], 0))
            self.assertEqual(told(judged(plan_of(rows), limit=1)), (1, [empty], 0))

    def test_one_letter(self):
        verdict = judged(plan_of([("ann", [("write", "bob", "a")])]))
        outcome = (("bob", (("ann", "a"),)), ("ann", ()), ("cid", ()))
        self.assertEqual(told(verdict), (3, [(outcome, ["ann", ("hall", "yard")])], 0))

    def test_a_walk_that_comes_to_nothing_is_a_course_more(self):
        verdict = judged(plan_of([("ann", [("walk", "hall"), ("walk", "hall")])]))
        self.assertEqual((verdict.many(), verdict.outcomes()[0][1]), (3, ["ann", "ann"]))

    def test_two_writers_and_one_reader(self):
        verdict = judged(plan_of(TWO))
        boxes = [dict(outcome)["bob"] for outcome, _ in verdict.outcomes()]
        wanted = merges((("ann", "a"), ("ann", "b")), (("cid", "c"), ("cid", "d")))
        self.assertEqual(len(wanted), 6)
        self.assertEqual(sorted(boxes), sorted(wanted))
        # Found in the order of moves: ann goes ahead of cid.
        self.assertEqual(boxes[0], (("ann", "a"), ("ann", "b"), ("cid", "c"), ("cid", "d")))
        self.assertEqual(boxes[-1], (("cid", "c"), ("cid", "d"), ("ann", "a"), ("ann", "b")))

    def test_two_writers_at_two_hosts(self):
        grounds = Map(["hall", "yard", "attic"], [("bob", "yard"), ("ann", "hall"), ("cid", "attic")])
        verdict = judged(Plan(grounds, TWO))
        boxes = [dict(outcome)["bob"] for outcome, _ in verdict.outcomes()]
        self.assertEqual(sorted(boxes), sorted(merges((("ann", "a"), ("ann", "b")), (("cid", "c"), ("cid", "d")))))

    def test_two_writers_that_walk(self):
        verdict = judged(plan_of(THREE))
        boxes = [dict(outcome)["bob"] for outcome, _ in verdict.outcomes()]
        self.assertEqual(sorted(boxes), sorted(merges((("ann", "a"), ("ann", "b")), (("cid", "c"),))))

    def test_by_hand(self):
        for rows in (TWO, [("ann", WALKS[0][1]), ("bob", WALKS[1][1][:1])], [("bob", WALKS[1][1]), ("ann", WALKS[0][1][:1])]):
            self.assertEqual(told(judged(plan_of(rows))), by_hand(plan_of(rows)))

    def test_drawn_plans_by_hand(self):
        greatest = 0
        for seed in range(40):
            draw = random.Random(seed)
            grounds = drawn_map(draw)
            hosts, names = grounds.hosts(), grounds.walkers()
            rows = [(name, [("walk", draw.choice(hosts)) if draw.random() < 0.5 else ("write", draw.choice(names), f"w{number}")
                            for number in range(draw.randint(0, 2))]) for name in names[:3]]
            plan = Plan(grounds, rows)
            try:
                verdict = judged(plan, limit=150)
            except TooMany:
                continue
            self.assertEqual(told(verdict), by_hand(plan))
            greatest = max(greatest, verdict.greatest())
        self.assertGreater(greatest, 0)

    def test_each_way_leads_to_its_outcome(self):
        for rows in (TWO, THREE):
            verdict = judged(plan_of(rows))
            self.assertEqual(len({outcome for outcome, _ in verdict.outcomes()}), len(verdict.outcomes()))
            for outcome, way in verdict.outcomes():
                course = Course(plan_of(rows))
                for move in way:
                    course.go(move)
                self.assertEqual((course.moves(), course.outcome()), ([], outcome))

    def test_the_first_way_is_none_longer(self):
        ways = [way for _, way in judged(plan_of(THREE)).outcomes()]
        self.assertEqual([len(way) for way in ways], sorted(len(way) for way in ways))

    def test_all_that_can_come_of_it(self):
        # Drawn courses end in one of the outcomes, and each outcome has each writer's words in order.
        for rows in (TWO, THREE, WALKS):
            verdict = judged(plan_of(rows), limit=5000)
            outcomes = [outcome for outcome, _ in verdict.outcomes()]
            for seed in range(40):
                draw, course = random.Random(seed), Course(plan_of(rows))
                while course.moves():
                    course.go(draw.choice(course.moves()))
                self.assertIn(course.outcome(), outcomes)
            for outcome in outcomes:
                for name, deeds in rows:
                    for reader, box in outcome:
                        self.assertEqual([word for writer, word in box if writer == name],
                                         [deed[2] for deed in deeds if deed[0] == "write" and deed[1] == reader])

    def test_what_stands(self):
        self.assertEqual(judged(plan_of(TWO)).greatest(), 0)
        self.assertEqual(judged(plan_of(THREE)).greatest(), by_hand_greatest(THREE))
        self.assertGreater(judged(plan_of(WALKS), limit=5000).greatest(), 1)


def by_hand_greatest(rows):
    """The most parcels that stand, over all courses, each come to by its moves; keys tell which were seen."""
    layer, seen, greatest = [Course(plan_of(rows))], set(), 0
    while layer:
        course = layer.pop()
        if course.key() not in seen:
            seen.add(course.key())
            greatest = max(greatest, standing(course.world()))
            for move in course.moves():
                twin = course.copied()
                twin.go(move)
                layer.append(twin)
    return greatest


class LimitTest(unittest.TestCase):
    def test_just_so_many_and_one_less(self):
        for rows in (TWO, [("ann", [("write", "bob", "a")])], THREE):
            many = judged(plan_of(rows)).many()
            self.assertEqual(told(judged(plan_of(rows), limit=many)), told(judged(plan_of(rows))))
            self.assertEqual(judged(plan_of(rows), limit=many + 1).many(), many)
            for limit in (many - 1, 1, 2):
                with self.assertRaises(TooMany) as caught:
                    judged(plan_of(rows), limit=limit)
                self.assertEqual(caught.exception.limit, limit)

    def test_without_a_limit_it_is_two_thousand(self):
        with self.assertRaises(TooMany) as caught:
            judged(plan_of(WALKS))
        self.assertEqual(caught.exception.limit, 2000)
        self.assertGreater(judged(plan_of(WALKS), limit=5000).many(), 2000)

    def test_by_names(self):
        self.assertEqual(judged(plan=plan_of(TWO), limit=100).many(), judged(plan_of(TWO)).many())
        with self.assertRaises(TypeError):
            judged(plan_of(TWO), 100)


class OwnListsTest(unittest.TestCase):
    def test_told_and_then_changed(self):
        verdict = judged(plan_of(TWO))
        before = told(verdict)
        for _, way in verdict.outcomes():
            way.clear()
        verdict.outcomes().clear()
        self.assertEqual(told(verdict), before)
        self.assertIsNot(verdict.outcomes(), verdict.outcomes())
        for one, two in itertools.combinations([way for _, way in verdict.outcomes() + verdict.outcomes()], 2):
            self.assertIsNot(one, two)

    def test_the_plan_is_not_changed(self):
        plan = plan_of(TWO)
        judged(plan)
        self.assertEqual(plan, plan_of(TWO))
        self.assertEqual(told(judged(plan)), told(judged(plan)))


if __name__ == "__main__":
    unittest.main()
