"""The promise over the whole, along drawn courses of deeds and handings in any order."""

import collections
import random
import unittest

from tests.helper import REFUSALS, drawn_map, drawn_worlds
from walkbox.worlds import World

COURSES = 30


def words_of(world, writer, reader):
    """The words of a writer in a reader's box, in order."""
    return [word for name, word in world.box(reader) if name == writer]


def standing(world):
    """All parcels on shelves and in rows."""
    rows = []
    for host in world.grounds().hosts():
        for name in world.grounds().walkers():
            rows += [parcel for _, parcel in world.shelf(host, name).told()]
            for row in world.rows(host, name).told():
                rows += row[5]
    return rows


def on_links(world):
    """All entries on links."""
    links = world.links()
    return [entry for source, goal in links.busy() for entry in links.entries(source, goal)]


def written_in(deeds):
    """By tuples (writer, reader), the words that were written."""
    written = collections.defaultdict(list)
    for deed in deeds:
        if deed[0] == "write":
            written[deed[1], deed[2]].append(deed[3])
    return written


class Numbers:
    """The numbers by which each parcel was sent, link by link. (Echoes that ask are alike, and are left out.)"""

    def __init__(self):
        self.sent = collections.defaultdict(list)
        self.before = {}

    def look(self, world):
        """See which parcels stand newly on a link, or on another link, or by another number."""
        links, now = world.links(), {}
        for source, goal in links.busy():
            for thing, number in links.entries(source, goal):
                if thing[0] == "letter" or (thing[0] == "echo" and thing[3] != "ask"):
                    now[thing] = (source, goal, number)
        for thing, place in now.items():
            if self.before.get(thing) != place:
                self.sent[thing].append(place[2])
        self.before = now


class WholeTest(unittest.TestCase):
    def assert_beginnings(self, world, written):
        """Each box has of each writer a beginning of what that one wrote; each other letter is at one place."""
        names = world.grounds().walkers()
        waiting = [thing for thing in standing(world) if thing[0] == "letter"]
        waiting += [thing for thing, _ in on_links(world) if thing[0] == "letter"]
        wanted = []
        for writer in names:
            for reader in names:
                read, words = words_of(world, writer, reader), written[writer, reader]
                self.assertEqual(read, words[:len(read)])
                wanted += [("letter", writer, reader, word) for word in words[len(read):]]
        self.assertEqual(sorted(waiting), sorted(wanted))

    def assert_over(self, world, written):
        """Every letter is read, and nothing waits."""
        names = world.grounds().walkers()
        self.assertEqual(standing(world), [])
        for reader in names:
            for writer in names:
                self.assertEqual(words_of(world, writer, reader), written[writer, reader])
            for host in world.grounds().hosts():
                rows = world.rows(host, reader)
                self.assertEqual((world.post(host, reader).bars(), len(world.shelf(host, reader)), len(rows)), ([], 0, 0))
                self.assertEqual(([row for row in rows.told() if row[2]], rows.ahead()), ([], []))

    def test_at_each_moment_and_in_the_end(self):
        for seed in range(COURSES):
            with self.subTest(seed=seed):
                for world, _ in drawn_worlds(seed, 50):
                    self.assert_beginnings(world, written_in(world.history()))
                self.assertIs(world.is_quiet(), True)
                self.assert_over(world, written_in(world.history()))

    def test_numbers_rise_from_link_to_link(self):
        most = 0
        for seed in range(COURSES):
            with self.subTest(seed=seed):
                numbers = Numbers()
                for world, _ in drawn_worlds(seed, 50):
                    numbers.look(world)
                for thing, sent in numbers.sent.items():
                    self.assertEqual(sent, sorted(set(sent)))
                    walker = thing[2] if thing[0] == "letter" else thing[1]
                    self.assertLessEqual(len(sent), world.stay(walker))
                    most = max(most, len(sent))
        self.assertGreater(most, 3)

    def test_quieted_by_any_numbers(self):
        for seed in range(COURSES):
            draw = random.Random(seed)
            for many, (world, _) in enumerate(drawn_worlds(seed, 30)):
                if many % 10 == 9:
                    twin = world.copied()
                    twin.quieted(choices=[draw.randrange(1000) for _ in range(draw.randrange(60))])
                    self.assert_over(twin, written_in(world.history()))

    def test_shortened_or_not(self):
        shortened = 0
        for seed in range(COURSES):
            boxes = []
            for shorten in (True, False):
                world = walked(seed, shorten)
                shortened += len([deed for deed in world.history() if deed[0] == "short"])
                names = world.grounds().walkers()
                boxes.append({(one, two): words_of(world, one, two) for one in names for two in names})
            self.assertEqual(boxes[0], boxes[1])
            self.assertTrue(any(boxes[0].values()))
        self.assertGreater(shortened, 100)


def walked(seed, shorten):
    """A world in which each walker has done the same, with or without asking and shortening, and all is quiet."""
    draw = random.Random(seed)
    world = World(drawn_map(draw))
    hosts, names = world.grounds().hosts(), world.grounds().walkers()
    left = {name: [("write", name, draw.choice(names), f"w{number}") if draw.random() < 0.6
                   else ("walk", name, draw.choice(hosts)) for number in range(14)] for name in names}
    while any(left.values()) or not world.is_quiet():
        name = draw.choice(names)
        if left[name] and isinstance(world.place(name), str):
            deed = left[name].pop(0)
            if deed[0] == "write" or deed[2] != world.place(name):
                world.do(deed)
        for host in hosts if shorten else []:
            for word in ("short", "ask") if any(left.values()) else []:
                try:
                    world.do((word, host, draw.choice(names)))
                except REFUSALS:
                    continue
        for source, goal in world.links().busy():
            if draw.random() < 0.7:
                world.hand(source, goal)
    return world


if __name__ == "__main__":
    unittest.main()
