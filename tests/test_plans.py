"""Plans: what is refused, what is told, equality, length."""

import itertools
import unittest

from tests.helper import (Stranger, no_hosts, no_texts, no_walkers, other_maps, others_than, sample_map, shown)
from walkbox.errors import NoPlan
from walkbox.plans import Plan

WRITE = ("write", "bob", "hi7")
WALK = ("walk", "attic")
ROWS = [("cid", [WRITE, WALK, ("write", "cid", "a")]), ("ann", []), ("bob", [WALK])]


def sample(rows=None):
    return Plan(sample_map(), rows or [(walker, list(deeds)) for walker, deeds in ROWS])


class ToldTest(unittest.TestCase):
    def test_rows(self):
        plan = sample()
        self.assertEqual((plan.rows(), plan.grounds(), len(plan)), (ROWS, sample_map(), 4))
        self.assertEqual([type(row) for row in plan.rows()], [tuple] * 3)
        self.assertEqual([type(deeds) for _, deeds in plan.rows()], [list] * 3)

    def test_without_rows(self):
        plan = Plan(sample_map(), [])
        self.assertEqual((plan.rows(), len(plan)), ([], 0))

    def test_edges_of_deeds(self):
        for deed in [("write", "ann", "a"), ("write", "ann", "a" * 12), ("write", "ann", "0"), ("walk", "hall"), ("walk", "yard")]:
            self.assertEqual(sample([("ann", [deed])]).rows(), [("ann", [deed])])

    def test_length(self):
        self.assertEqual(len(sample([("ann", [])])), 0)
        self.assertEqual(len(sample([("ann", [WALK] * 7), ("bob", [WRITE] * 5)])), 12)

    def test_by_names(self):
        self.assertEqual(Plan(rows=list(ROWS), grounds=sample_map()), sample())

    def test_handed_in_and_then_changed(self):
        deeds = [WRITE]
        rows = [("ann", deeds)]
        plan = sample(rows)
        deeds.append(WALK)
        rows.append(("bob", []))
        self.assertEqual((plan.rows(), len(plan)), ([("ann", [WRITE])], 1))
        self.assertEqual(plan, sample([("ann", [WRITE])]))

    def test_told_and_then_changed(self):
        plan = sample()
        plan.rows()[0][1].clear()
        plan.rows().clear()
        self.assertEqual((plan.rows(), len(plan)), (ROWS, 4))
        self.assertEqual(plan, sample())
        self.assertIsNot(plan.rows(), plan.rows())
        self.assertIsNot(plan.rows()[0][1], plan.rows()[0][1])

    def test_what_is_handed_in_is_not_changed(self):
        rows = [("ann", [WRITE, WALK])]
        sample(rows)
        self.assertEqual(rows, [("ann", [WRITE, WALK])])

    def test_one_list_in_two_rows(self):
        deeds = [WALK]
        plan = sample([("ann", deeds), ("bob", deeds)])
        told = plan.rows()
        self.assertIsNot(told[0][1], told[1][1])


class RefusedTest(unittest.TestCase):
    def assert_no_plan(self, rows, who):
        for _ in range(2):
            with self.assertRaises(NoPlan, msg=shown(rows)) as caught:
                Plan(sample_map(), rows)
            self.assertEqual(caught.exception.who, who)
            self.assertIs(type(caught.exception.who), str)

    def test_rows_that_are_no_list(self):
        for rows in [thing for thing in no_texts() if not isinstance(thing, list)] + ["", "rows", tuple(ROWS)]:
            self.assert_no_plan(rows, "rows")

    def test_a_row_that_is_no_tuple_of_two(self):
        pairs = [("a", "n"), ("a", [])]
        wrong = [thing for thing in no_texts() if thing not in pairs or isinstance(thing, Stranger)]
        for row in wrong + ["ann", "an", ["ann", []], ("ann", [], []), ("ann",), ()]:
            for at in range(3):
                self.assert_no_plan(ROWS[:at] + [row] + ROWS[at:], str(at))

    def test_a_walker_that_is_none(self):
        for walker in no_walkers():
            for at in range(3):
                self.assert_no_plan(ROWS[:at] + [(walker, [])] + ROWS[at:], str(at))
            self.assert_no_plan([(walker, None)], "0")
            self.assert_no_plan([(walker, ["x"])], "0")

    def test_a_walker_that_stands_ahead(self):
        self.assert_no_plan([("ann", []), ("ann", [])], "1")
        self.assert_no_plan([("ann", []), ("bob", []), ("ann", [WALK])], "2")
        self.assert_no_plan(ROWS + [("bob", [])], "3")
        self.assert_no_plan([("ann", []), ("ann", None)], "1")

    def test_deeds_that_are_no_list(self):
        for deeds in [thing for thing in no_texts() if not isinstance(thing, list)] + ["", "deeds", (WALK,)]:
            self.assert_no_plan([("ann", deeds)], "ann")
            self.assert_no_plan([("bob", []), ("ann", deeds), ("cid", [])], "ann")

    def test_a_deed_that_is_none(self):
        wrong = no_texts() + [
            "write", "walk", ("write",), ("write", "bob"), ("write", "bob", "a", "b"), ("walk",), ("walk", "hall", "yard"),
            ["write", "bob", "a"], ["walk", "hall"], ("hand", "hall", "yard"), ("ask", "hall", "bob"), ("short", "hall", "bob"),
            ("write", "ann", "bob", "a"), ("walk", "ann", "hall"), ("Walk", "hall"), ("walk ", "hall"), ("", "hall"),
            ("walk", "bob", "a"), ("write", "hall"), (None, "hall"), (Stranger(), "hall"), (Stranger(), "bob", "a"),
        ]
        for deed in wrong:
            for deeds in ([deed], [WALK, deed], [deed, WALK]):
                self.assert_no_plan([("bob", [WALK]), ("ann", deeds)], "ann")

    def test_readers_words_and_goals(self):
        for reader in no_walkers():
            self.assert_no_plan([("ann", [("write", reader, "a")])], "ann")
        for word in ["", "A", "a b", "a" * 13, "a\n"] + no_texts():
            self.assert_no_plan([("ann", [("write", "bob", word)])], "ann")
        for goal in no_hosts():
            self.assert_no_plan([("ann", [("walk", goal)])], "ann")

    def test_two_faults(self):
        row, name, deeds, deed = "x", ("hall", []), ("ann", None), ("cid", ["x"])
        whos = {0: None, 1: None, 2: "ann", 3: "cid"}
        for one, two in itertools.permutations(range(4), 2):
            faults = [row, name, deeds, deed]
            self.assert_no_plan([faults[one], faults[two]], whos[one] or "0")
            self.assert_no_plan([("bob", []), faults[one], faults[two]], whos[one] or "1")


class SameTest(unittest.TestCase):
    def assert_unlike(self, one, two):
        self.assertEqual([one == two, two == one, one != two, two != one], [False, False, True, True])

    def test_equal(self):
        self.assertEqual([sample() == sample(), sample() != sample()], [True, False])

    def test_each_part(self):
        unlike = [[], ROWS, ROWS[:2], ROWS[::-1], [("cid", [WRITE]), *ROWS[1:]], [("cid", ROWS[0][1][::-1]), *ROWS[1:]],
                  [("cid", [("write", "bob", "hi8"), *ROWS[0][1][1:]]), *ROWS[1:]], [("ann", [])], [("bob", [])],
                  [("cid", [("write", "ann", "hi7"), *ROWS[0][1][1:]]), *ROWS[1:]]]
        plans = [Plan(sample_map(), rows) for rows in unlike]
        for one, two in itertools.combinations(plans, 2):
            self.assert_unlike(one, two)

    def test_another_map(self):
        for grounds in other_maps():
            self.assert_unlike(sample(), Plan(grounds, ROWS))
            self.assert_unlike(Plan(sample_map(), []), Plan(grounds, []))

    def test_anything_else(self):
        for other in others_than(sample()) + [ROWS, len(ROWS)]:
            self.assert_unlike(sample(), other)
        self.assertIs(sample() == Stranger(), False)


if __name__ == "__main__":
    unittest.main()
