"""Worlds: quieting, running, log and history, copies, equality, keys."""

import itertools
import unittest

from tests.helper import Stranger, drawn_world, drawn_worlds, other_maps, others_than, sample_map, world_picture
from walkbox.errors import Away, NoSuch, NoWord, Still, TooMany
from walkbox.worlds import MOST, World

THIRTY = 10 ** 30 - 1

# Four links are busy behind these: hall to yard (two entries), hall to attic, yard to hall, yard to attic.
BUSY = [("write", "ann", "bob", "a"), ("write", "cid", "bob", "b"), ("walk", "cid", "attic"), ("write", "bob", "ann", "c"),
        ("walk", "bob", "attic")]


def ran(deeds, grounds=None):
    """A world in which the deeds are done, each by itself."""
    world = World(grounds or sample_map())
    for deed in deeds:
        world.do(deed)
    return world


def handed(deeds, choices):
    """What quieting comes to, by the words of the document: tuples ("hand", source, goal) in order."""
    world = ran(deeds)
    hands = []
    while world.links().busy():
        busy = world.links().busy()
        at = choices[len(hands)] % len(busy) if len(hands) < len(choices) else 0
        hands.append(("hand", *busy[at]))
        world.hand(*busy[at])
    return hands, world


class QuietedTest(unittest.TestCase):
    def test_most(self):
        self.assertEqual(MOST, 100000)

    def test_is_quiet(self):
        world = ran([])
        self.assertIs(world.is_quiet(), True)
        world.write("ann", "cid", "a")
        self.assertIs(world.is_quiet(), True)
        world.write("ann", "bob", "a")
        self.assertIs(world.is_quiet(), False)
        world.hand("hall", "yard")
        self.assertIs(world.is_quiet(), True)

    def test_nothing_to_hand_on(self):
        world = ran([])
        self.assertEqual(world.quieted(), 0)
        self.assertEqual(world.quieted(most=0), 0)
        self.assertEqual(world.quieted(choices=[1, 2], most=0), 0)
        self.assertEqual(world.history(), [])

    def test_always_the_first(self):
        hands, wanted = handed(BUSY, [])
        world = ran(BUSY)
        self.assertEqual(world.quieted(), len(hands))
        self.assertEqual(world.history(), BUSY + hands)
        self.assertEqual(world, wanted)
        self.assertIs(world.is_quiet(), True)
        self.assertEqual(hands[:3], [("hand", "hall", "yard")] * 3)

    def test_by_numbers(self):
        for choices in ([0], [1], [2], [3], [4], [7], [2, 1], [3, 3, 3, 3], [THIRTY, 10 ** 29, 5], list(range(100)),
                        [3] * 500, [k * k + 1 for k in range(40)]):
            hands, wanted = handed(BUSY, choices)
            for numbers in (choices, tuple(choices)):
                world = ran(BUSY)
                self.assertEqual(world.quieted(choices=numbers), len(hands))
                self.assertEqual(world.history(), BUSY + hands)
                self.assertEqual(world, wanted)

    def test_the_rest_of_the_number(self):
        busy = [("hall", "yard"), ("hall", "attic"), ("yard", "hall"), ("yard", "attic")]
        self.assertEqual(ran(BUSY).links().busy(), busy)
        for number in range(9):
            world = ran(BUSY)
            world.quieted(choices=[number])
            self.assertEqual(world.history()[len(BUSY)], ("hand", *busy[number % 4]))

    def test_numbers_handed_in_are_not_changed(self):
        choices = [3, 1, 2]
        ran(BUSY).quieted(choices=choices)
        self.assertEqual(choices, [3, 1, 2])

    def test_most_exactly_so_many(self):
        many = ran(BUSY).quieted()
        self.assertGreater(many, 5)
        world = ran(BUSY)
        self.assertEqual(world.quieted(most=many), many)
        self.assertIs(world.is_quiet(), True)
        self.assertEqual(ran(BUSY).quieted(most=many + 1), many)

    def test_most_too_small(self):
        hands = handed(BUSY, [3, 2])[0]
        for most in range(len(hands)):
            world = ran(BUSY)
            with self.assertRaises(TooMany) as caught:
                world.quieted(choices=[3, 2], most=most)
            self.assertEqual(caught.exception.limit, most)
            self.assertEqual(world.history(), BUSY + hands[:most])
            self.assertEqual(world, ran(BUSY + hands[:most]))
            self.assertEqual(world.quieted(), len(handed(BUSY + hands[:most], [])[0]))
            self.assertIs(world.is_quiet(), True)

    def test_by_its_name_alone(self):
        with self.assertRaises(TypeError):
            ran(BUSY).quieted([1])


class RunTest(unittest.TestCase):
    def test_run(self):
        world = World(sample_map())
        self.assertEqual(world.run(BUSY), 5)
        self.assertEqual(world, ran(BUSY))
        self.assertEqual((world.history(), world.log()), (BUSY, [("begin", 0), ("end", 5)]))
        self.assertEqual(world.run([]), 0)
        self.assertEqual(world.log(), [("begin", 0), ("end", 5), ("begin", 5), ("end", 5)])
        self.assertEqual(world.run([("hand", "hall", "yard"), ("hand", "hall", "yard")]), 2)
        self.assertEqual(world.log()[4:], [("begin", 5), ("end", 7)])

    def test_refused_midway(self):
        for wrong, error in [(("walk", "bob", "attic"), Away), (("write", "dan", "bob", "a"), NoSuch),
                             (("write", "ann", "bob", "A"), NoWord), (("hand", "attic", "hall"), Still)]:
            world = World(sample_map())
            with self.assertRaises(error):
                world.run(BUSY + [wrong, ("write", "ann", "bob", "d")])
            self.assertEqual(world, ran(BUSY))
            self.assertEqual((world.history(), world.log()), (BUSY, [("begin", 0), ("end", 5)]))
            with self.assertRaises(error):
                world.run([wrong])
            self.assertEqual((world.history(), world.log()[2:]), (BUSY, [("begin", 5), ("end", 5)]))
            self.assertEqual(world.run([("write", "ann", "bob", "d")]), 1)
            self.assertEqual(world.log()[4:], [("begin", 5), ("end", 6)])

    def test_its_refusal_goes_on(self):
        with self.assertRaises(Still) as caught:
            World(sample_map()).run(BUSY + [("hand", "attic", "hall")])
        self.assertEqual((caught.exception.source, caught.exception.goal), ("attic", "hall"))

    def test_single_deeds_stand_in_the_history_alone(self):
        world = ran(BUSY)
        self.assertEqual((world.history(), world.log()), (BUSY, []))
        world.write("ann", "bob", "d")
        world.hand("hall", "yard")
        self.assertEqual(world.history()[5:], [("write", "ann", "bob", "d"), ("hand", "hall", "yard")])
        self.assertEqual(world.log(), [])
        world.run([("hand", "hall", "yard")])
        self.assertEqual(world.log(), [("begin", 7), ("end", 8)])

    def test_quieting_stands_in_the_history_and_not_in_the_log(self):
        world = World(sample_map())
        world.run(BUSY)
        many = world.quieted(choices=[2])
        self.assertEqual(world.log(), [("begin", 0), ("end", 5)])
        self.assertEqual(len(world.history()), 5 + many)
        self.assertEqual({deed[0] for deed in world.history()[5:]}, {"hand"})
        world.run([])
        self.assertEqual(world.log()[2:], [("begin", 5 + many), ("end", 5 + many)])

    def test_what_is_refused_stands_nowhere(self):
        world = ran(BUSY)
        with self.assertRaises(Away):
            world.walk("bob", "hall")
        self.assertEqual(world.history(), BUSY)

    def test_deeds_handed_in_and_changed_behind(self):
        deeds = list(BUSY)
        world = World(sample_map())
        world.run(deeds)
        self.assertEqual(deeds, BUSY)
        deeds.clear()
        self.assertEqual(world.history(), BUSY)

    def test_the_history_leads_to_the_same_world(self):
        for seed in range(20):
            world = drawn_world(seed, 60)
            again = World(world.grounds())
            again.run(world.history())
            self.assertEqual(again, world)
            self.assertEqual(again.history(), world.history())


class CopiesTest(unittest.TestCase):
    def full(self):
        world = World(sample_map())
        world.run(BUSY)
        world.hand("hall", "attic")
        world.hand("hall", "yard")
        return world

    def test_a_copy_stands_alike(self):
        world = self.full()
        twin = world.copied()
        self.assertIs(type(twin), World)
        self.assertEqual(twin, world)
        self.assertEqual(world_picture(twin), world_picture(world))

    def test_each_goes_its_own_way(self):
        further = [("write", "ann", "bob", "x"), ("hand", "yard", "attic"), ("walk", "ann", "yard"), ("hand", "hall", "yard"),
                   ("hand", "attic", "hall"), ("write", "cid", "cid", "y"), ("ask", "attic", "ann")]
        before = world_picture(self.full())
        for at in range(2):
            pair = [self.full()]
            pair.append(pair[0].copied())
            for deed in further:
                pair[at].run([deed])
                self.assertEqual(world_picture(pair[1 - at]), before)
            self.assertEqual(pair[at].history(), self.full().history() + further)
            self.assertEqual(pair[at].log()[2:], [(word, 7 + number + (word == "end")) for number in range(len(further))
                                                  for word in ("begin", "end")])
            pair[at].quieted()
            self.assertEqual(world_picture(pair[1 - at]), before)

    def test_both_go_the_same_way(self):
        for seed in range(10):
            world = drawn_world(seed, 40)
            before = world.key()
            twin = world.copied()
            many = world.quieted(choices=[5, 4, 3])
            self.assertEqual(twin.key(), before)
            self.assertEqual(world.key() != before, many > 0)
            twin.quieted(choices=[5, 4, 3])
            self.assertEqual(world_picture(twin), world_picture(world))


class SameTest(unittest.TestCase):
    def assert_equal(self, one, two):
        self.assertEqual([one == two, two == one, one != two, two != one], [True, True, False, False])
        self.assertEqual(one.key(), two.key())

    def assert_unlike(self, one, two):
        self.assertEqual([one == two, two == one, one != two, two != one], [False, False, True, True])

    def test_whatever_log_and_history(self):
        one, two = World(sample_map()), World(sample_map())
        one.run(BUSY)
        for deed in [BUSY[3], BUSY[0], BUSY[1], BUSY[4], BUSY[2]]:
            two.do(deed)
        self.assertNotEqual(one.history(), two.history())
        self.assertNotEqual(one.log(), two.log())
        self.assert_equal(one, two)

    def test_asked_and_answered_changes_nothing_but_news(self):
        one, two = World(sample_map()), World(sample_map())
        for times, world in [(1, one), (2, two)]:
            for _ in range(times):
                world.ask("hall", "bob")
                world.quieted()
        self.assert_equal(one, two)
        self.assert_unlike(one, World(sample_map()))
        self.assertNotEqual(one.key(), World(sample_map()).key())

    def test_by_single_parts(self):
        # Behind each of these another part is otherwise: places, boxes, links, rows, posts.
        unlike = [ran([]), ran([("write", "ann", "cid", "a")]), ran([("write", "ann", "cid", "b")]),
                  ran([("write", "cid", "cid", "a")]), ran([("write", "ann", "bob", "a")]), ran([("write", "ann", "bob", "b")]),
                  ran([("write", "ann", "bob", "a"), ("hand", "hall", "yard")]), ran([("walk", "ann", "yard")]),
                  ran([("walk", "ann", "attic")]), ran([("walk", "cid", "yard")]), ran([("ask", "hall", "bob")]),
                  ran([("ask", "attic", "bob")]), ran([("ask", "hall", "bob")] * 2),
                  ran([("walk", "ann", "yard"), ("hand", "hall", "yard")]),
                  ran([("write", "ann", "cid", "a"), ("write", "ann", "cid", "b")]),
                  ran([("write", "ann", "cid", "b"), ("write", "ann", "cid", "a")])]
        for one, two in itertools.combinations(unlike, 2):
            self.assert_unlike(one, two)
            self.assertNotEqual(one.key(), two.key())

    def test_stays_alone(self):
        # Ann has gone there and back twice or once: places, boxes and links are alike.
        worlds = []
        for times in range(3):
            world = World(sample_map())
            for _ in range(times):
                world.walk("ann", "yard")
                world.quieted()
                world.walk("ann", "hall")
                world.quieted()
            worlds.append(world)
        for one, two in itertools.combinations(worlds, 2):
            self.assert_unlike(one, two)
            self.assertNotEqual(one.key(), two.key())

    def test_another_map(self):
        for grounds in other_maps():
            self.assert_unlike(ran([]), World(grounds))
            self.assert_unlike(ran([("write", "ann", "cid", "a")]), ran([("write", "ann", "cid", "a")], grounds))

    def test_anything_else(self):
        for world in (ran([]), ran(BUSY)):
            for other in others_than(world) + [world.key(), world.history(), world.links()]:
                self.assert_unlike(world, other)
            self.assertIs(world == Stranger(), False)

    def test_keys_alike_just_where_worlds_are_equal(self):
        # Of one map, along drawn courses, in which many a world comes about twice.
        worlds = []
        for seed in range(12):
            worlds += [world.copied() for world, _ in drawn_worlds(100 + seed, 12)]
        for one, two in itertools.combinations(worlds, 2):
            if one.grounds() == two.grounds():
                self.assertEqual(one == two, one.key() == two.key())

    def test_keys_of_what_comes_about_twice(self):
        alike = 0
        short = [("write", "ann", "bob", "a"), ("write", "ann", "cid", "a"), ("walk", "bob", "attic"), ("hand", "hall", "yard"),
                 ("hand", "yard", "attic")]
        worlds = []
        for deeds in itertools.permutations(short, 4):
            world = World(sample_map())
            try:
                world.run(list(deeds))
            except Still:
                continue
            worlds.append(world)
        for one, two in itertools.combinations(worlds, 2):
            self.assertEqual(one == two, one.key() == two.key())
            alike += one == two
        self.assertGreater(alike, 5)

    def test_keys_asked_at_each_moment(self):
        for seed in range(6):
            for world, _ in drawn_worlds(seed, 25):
                self.assertEqual(world.key(), ran(world.history(), world.grounds()).key())

    def test_keys_of_copies_that_go_their_own_way(self):
        world = ran(BUSY)
        world.key()
        twin = world.copied()
        world.ask("attic", "ann")
        twin.write("ann", "ann", "x")
        self.assertEqual(world.key(), ran(BUSY + [("ask", "attic", "ann")]).key())
        twin.ask("hall", "bob")
        self.assertEqual(twin.key(), ran(BUSY + [("write", "ann", "ann", "x"), ("ask", "hall", "bob")]).key())
        self.assertEqual(world.key(), ran(BUSY + [("ask", "attic", "ann")]).key())
        world.ask("hall", "bob")
        twin.ask("attic", "ann")
        twin.ask("attic", "ann")
        self.assertEqual(world.key(), ran(BUSY + [("ask", "attic", "ann"), ("ask", "hall", "bob")]).key())

    def test_a_key_is_a_text(self):
        world = ran(BUSY)
        self.assertIs(type(world.key()), str)
        self.assertEqual(world.key(), world.key())


if __name__ == "__main__":
    unittest.main()
