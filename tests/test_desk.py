"""A desk: each kind of row and its answer, and what is refused."""

import random
import unittest

from tests.helper import drawn_deed, drawn_map, no_texts, sample_map, shown
from walkbox.desk import Desk
from walkbox.errors import Away, Begun, Here, NoNews, NoRow, NoSuch, NoText, NoWord, Still
from walkbox.histories import history_text, map_text
from walkbox.papers import paper
from walkbox.thingtexts import thing_text
from walkbox.worlds import World

MAP = "hall yard attic bob@yard ann@hall cid@hall"
DESK_WORDS = ["new", "quiet", "box", "place", "sign", "bars", "why", "busy", "copy", "history"]
HOSTS, NAMES = ["hall", "yard", "attic"], ["bob", "ann", "cid"]

# Bob's way is shortened at hall behind these; a word each for the world w.
SHORT = ["walk bob attic", "hand yard attic", "hand attic yard", "hand yard attic", "ask hall bob", "hand hall yard",
         "hand yard attic", "hand attic hall", "short hall bob"]


def told(*rows):
    """A desk with a world w of the sample map, to which the rows are told behind."""
    desk = Desk()
    desk.say(f"new w {MAP}")
    for row in rows:
        desk.say(row)
    return desk


def did(*deeds):
    return told(*[f"w {deed}" for deed in deeds])


def asked(desk, name, hosts=tuple(HOSTS), names=tuple(NAMES)):
    """All that a desk tells of a world."""
    rows = [f"busy {name}", f"history {name}"]
    rows += [f"{word} {name} {walker}" for word in ("box", "place") for walker in names]
    rows += [f"{word} {name} {host} {walker}" for word in ("sign", "bars", "why") for host in hosts for walker in names]
    return [desk.say(row) for row in rows]


def wanted(world):
    """The same of a world itself, by the words of the document."""
    hosts, names = world.grounds().hosts(), world.grounds().walkers()
    posts = [(host, walker) for host in hosts for walker in names]
    rows = [" ".join(f"{source}>{goal}" for source, goal in world.links().busy()), history_text(world.history())]
    rows += [" ".join(f"{writer}:{word}" for writer, word in world.box(walker)) for walker in names]
    for walker in names:
        place = world.place(walker)
        rows.append((place if isinstance(place, str) else ">".join(place)) + f" {world.stay(walker)}")
    for host, walker in posts:
        sign = world.post(host, walker).sign()
        rows.append(sign if sign == "here" else f"{sign[0]} {sign[1]}")
    for host, walker in posts:
        rows.append(" ".join(f"{sort},{mark[0]},{mark[1]},{first}" for sort, mark, first in world.post(host, walker).bars()))
    for host, walker in posts:
        steps = paper(world, host, walker)
        rows.append("free" if steps is None else
                    "".join(f"{step[0]},{step[1]},{step[3]} " for step in steps[0]) + f"{steps[1][1]}>{steps[1][2]}")
    return rows


class AnswersTest(unittest.TestCase):
    def test_new(self):
        desk = Desk()
        self.assertEqual(desk.say(f"new w {MAP}"), "ok")
        self.assertEqual(asked(desk, "w"), wanted(World(sample_map())))
        self.assertEqual(desk.say(row="place w bob"), "yard 1")

    def test_new_in_the_place_of_an_elder_one(self):
        desk = did("write ann bob a")
        self.assertEqual(desk.say("new w hall yard eve@yard"), "ok")
        self.assertEqual((desk.say("history w"), desk.say("place w eve")), ("", "yard 1"))
        with self.assertRaises(NoSuch):
            desk.say("box w bob")

    def test_deeds(self):
        desk = told()
        self.assertEqual(desk.say("w write ann bob hi7"), "ok")
        self.assertEqual(desk.say("w walk ann attic"), "ok")
        self.assertEqual(desk.say("w hand hall yard"), "letter ann bob hi7")
        self.assertEqual(desk.say("w hand hall attic"), "goer ann 2 bob")
        self.assertEqual(desk.say("w hand hall yard"), "echo bob attic row ann 2")
        self.assertEqual(desk.say("w hand yard attic"), "answer bob row ann 2 yard 1")
        self.assertEqual(desk.say("w ask hall bob"), "ok")
        self.assertEqual(desk.say("box w bob"), "ann:hi7")
        self.assertEqual(desk.say("history w"), "write ann bob hi7\nwalk ann attic\nhand hall yard\nhand hall attic\n"
                                                "hand hall yard\nhand yard attic\nask hall bob\n")
        self.assertEqual(did(*SHORT[:-1]).say("w short hall bob"), "ok")

    def test_quiet(self):
        desk, world = told(), World(sample_map())
        self.assertEqual(desk.say("quiet w"), "0")
        self.assertEqual(desk.say("quiet w 5 0"), "0")
        for deed in [("write", "ann", "bob", "a"), ("walk", "bob", "attic"), ("write", "cid", "bob", "b"), ("walk", "cid", "attic")]:
            desk.say("w " + " ".join(deed))
            world.do(deed)
        self.assertEqual(desk.say("quiet w 2 10 0 7"), str(world.quieted(choices=[2, 10, 0, 7])))
        self.assertEqual(asked(desk, "w"), wanted(world))

    def test_quiet_by_its_numbers(self):
        deeds = ["write ann bob a", "walk cid attic", "write bob ann b"]
        busy = ["hand hall yard", "hand hall attic", "hand yard hall"]
        for number in [0, 1, 2, 3, 7, 10 ** 29, 10 ** 30 - 1]:
            desk = did(*deeds)
            desk.say(f"quiet w {number}")
            self.assertEqual(desk.say("history w").split("\n")[3], busy[number % 3])
        desk = did(*deeds)
        self.assertEqual(desk.say("quiet w"), "5")
        self.assertEqual(desk.say("history w").split("\n")[3], busy[0])

    def test_box(self):
        desk = did("write cid cid a", "write ann cid b2", "write cid cid a")
        self.assertEqual((desk.say("box w cid"), desk.say("box w ann")), ("cid:a ann:b2 cid:a", ""))

    def test_place(self):
        desk = did("walk ann attic")
        self.assertEqual((desk.say("place w ann"), desk.say("place w bob")), ("hall>attic 2", "yard 1"))
        desk.say("quiet w")
        self.assertEqual(desk.say("place w ann"), "attic 2")

    def test_sign(self):
        desk = did("walk ann attic")
        self.assertEqual([desk.say(f"sign w {host} ann") for host in HOSTS], ["attic 2", "hall 1", "hall 1"])
        self.assertEqual(desk.say("sign w yard bob"), "here")

    def test_bars(self):
        desk = did(*SHORT)
        self.assertEqual(desk.say("bars w yard bob"), "")
        self.assertEqual(desk.say("bars w hall bob"), "short,attic,2,1")
        desk.say("w ask hall bob")
        desk.say("w walk bob hall")
        desk.say("w hand attic hall")
        self.assertEqual(desk.say("bars w hall bob"), "short,attic,2,1 ask,bob,0,1 came,bob,3,1")

    def test_why(self):
        desk = did("walk ann yard", "hand hall yard")
        self.assertEqual((desk.say("why w yard ann"), desk.say("why w hall ann")), ("yard,came,1 yard>hall", "free"))
        desk = did("walk ann yard", "hand hall yard", "walk ann attic", "hand yard attic", "walk ann hall", "hand attic hall",
                   "hand attic hall", "hand yard hall")
        self.assertEqual(desk.say("why w yard ann"), "yard,came,1 hall,came,2 hall>yard")
        self.assertEqual(desk.say("why w hall ann"), "hall,came,2 hall>yard")

    def test_busy(self):
        desk = told()
        self.assertEqual(desk.say("busy w"), "")
        desk.say("w write bob ann a")
        self.assertEqual(desk.say("busy w"), "yard>hall")
        desk.say("w write ann bob a")
        desk.say("w walk cid attic")
        self.assertEqual(desk.say("busy w"), "hall>yard hall>attic yard>hall")

    def test_copy(self):
        desk = did("write ann bob a", "walk bob attic")
        self.assertEqual(desk.say("copy w v"), "ok")
        self.assertEqual(asked(desk, "v"), asked(desk, "w"))
        before = asked(desk, "w")
        desk.say("v hand hall yard")
        desk.say("quiet v")
        self.assertEqual(asked(desk, "w"), before)
        after = asked(desk, "v")
        desk.say("w hand yard attic")
        self.assertEqual(asked(desk, "v"), after)

    def test_copy_onto_another_and_onto_itself(self):
        desk = did("write ann bob a")
        desk.say(f"new v {MAP}")
        desk.say("v walk bob hall")
        self.assertEqual(desk.say("copy w v"), "ok")
        self.assertEqual(desk.say("history v"), "write ann bob a\n")
        self.assertEqual(desk.say("copy w w"), "ok")
        self.assertEqual(desk.say("history w"), "write ann bob a\n")
        desk.say("w hand hall yard")
        self.assertEqual((desk.say("box w bob"), desk.say("box v bob")), ("ann:a", ""))

    def test_history(self):
        desk = told()
        self.assertEqual(desk.say("history w"), "")
        desk.say("w write ann bob a")
        desk.say("quiet w")
        self.assertEqual(desk.say("history w"), "write ann bob a\nhand hall yard\n")

    def test_beside_a_world(self):
        for seed in range(10):
            draw = random.Random(seed)
            world, desk = World(drawn_map(draw)), Desk()
            hosts, names = world.grounds().hosts(), world.grounds().walkers()
            self.assertEqual(desk.say(f"new w {map_text(world.grounds())}"), "ok")
            weights = {"write": 1, "walk": 1, "ask": 0.5, "short": 2, "hand": 2}
            for number in range(40):
                deed = drawn_deed(draw, world, weights, number)
                entry = world.do(deed)
                self.assertEqual(desk.say("w " + " ".join(deed)), "ok" if entry is None else thing_text(entry[0]))
                self.assertEqual(asked(desk, "w", hosts, names), wanted(world))
            numbers = [draw.randrange(50) for _ in range(20)]
            self.assertEqual(desk.say("quiet w " + " ".join(map(str, numbers))), str(world.quieted(choices=numbers)))
            self.assertEqual(asked(desk, "w", hosts, names), wanted(world))
            # Every letter is read, and nothing waits: the promise over the whole, by a desk.
            for host in hosts:
                for name in names:
                    self.assertEqual((desk.say(f"bars w {host} {name}"), desk.say(f"why w {host} {name}")), ("", "free"))
            written = [row.split(" ")[1:] for row in desk.say("history w").split("\n") if row.startswith("write")]
            for writer in names:
                for reader in names:
                    self.assertEqual([row for row in desk.say(f"box w {reader}").split(" ") if row.startswith(f"{writer}:")],
                                     [f"{writer}:{word}" for one, two, word in written if (one, two) == (writer, reader)])

    def test_answers_are_texts(self):
        desk = did("write ann bob a")
        for row in ["busy w", "quiet w", "box w bob", "place w bob", "history w", "copy w v", "w ask hall bob", "bars w hall bob"]:
            self.assertIs(type(desk.say(row)), str)

    def test_asked_again(self):
        desk = did(*SHORT)
        self.assertEqual(asked(desk, "w"), asked(desk, "w"))

    def test_no_desk_knows_of_another_one(self):
        one, two = told(), Desk()
        with self.assertRaises(NoSuch):
            two.say("busy w")
        two.say("new w hall yard ann@hall")
        self.assertEqual(one.say("place w bob"), "yard 1")

    def test_words_of_deeds_as_names_of_worlds(self):
        desk = Desk()
        for name in ["write", "walk", "ask", "short", "hand", "ok", "free", "here", "ann", "hall", "abcdefgh", "a"]:
            self.assertEqual(desk.say(f"new {name} {MAP}"), "ok")
            self.assertEqual(desk.say(f"{name} write ann bob a"), "ok")
            self.assertEqual(desk.say(f"{name} hand hall yard"), "letter ann bob a")
            self.assertEqual(desk.say(f"copy {name} again"), "ok")
            self.assertEqual(desk.say(f"history {name}"), "write ann bob a\nhand hall yard\n")

    def test_many_worlds(self):
        desk = Desk()
        for at, name in enumerate(["a", "b", "c"]):
            desk.say(f"new {name} {MAP}")
            for _ in range(at):
                desk.say(f"{name} write ann ann {name}")
        self.assertEqual([desk.say(f"box {name} ann") for name in "abc"], ["", "ann:b", "ann:c ann:c"])


class RefusedTest(unittest.TestCase):
    def assert_refused(self, said, error, **fields):
        """Refused so, and nothing is changed."""
        desk = did("write ann bob a", "walk ann attic")
        desk.say(f"new v {MAP}")
        before = asked(desk, "w"), asked(desk, "v")
        for _ in range(2):
            with self.assertRaises(error, msg=shown(said)) as caught:
                desk.say(said)
            self.assertEqual({name: getattr(caught.exception, name) for name in fields}, fields)
        self.assertEqual((asked(desk, "w"), asked(desk, "v")), before)
        for name in ("x", "y", "abcdefgh"):
            with self.assertRaises(NoSuch):
                desk.say(f"busy {name}")

    def test_what_is_no_text(self):
        for row in no_texts() + [b"busy w", ["busy", "w"], ("busy", "w")]:
            self.assert_refused(row, NoRow)

    def test_too_many_and_too_few_words(self):
        for row in ["", "w", "new", "new x", "quiet", "box", "box w", "box w ann bob", "place", "place w", "place w ann bob", "sign",
                    "sign w", "sign w hall", "sign w hall ann bob", "bars w", "bars w hall", "bars w hall ann bob", "why w",
                    "why w hall", "why w hall ann bob", "busy", "busy w v", "copy", "copy w", "copy w x y", "history", "history w v",
                    "w write", "w write ann", "w write ann bob", "w write ann bob a b", "w walk", "w walk bob", "w walk bob hall x",
                    "w ask hall", "w ask hall bob x", "w short hall", "w short hall bob x", "w hand hall", "w hand hall yard x",
                    "w x", "w ann bob a", "w quiet", "w busy", "w box ann", "w history", "x y z", "box bob"]:
            self.assert_refused(row, NoRow)

    def test_blanks_and_line_feeds(self):
        for row in ["busy w", "quiet w", "quiet w 1 2", "box w ann", "sign w hall ann", "copy w x", "history w", "w write cid bob a",
                    "w hand hall yard", f"new x {MAP}"]:
            for wrong in (f" {row}", f"{row} ", row.replace(" ", "  ", 1), row[::-1].replace(" ", "  ", 1)[::-1], f"{row}\n",
                          f"\n{row}", row.replace(" ", "\n", 1), row.replace(" ", " \n ", 1), row.replace(" ", "\t", 1)):
                self.assert_refused(wrong, NoRow)
        for row in [" ", "  ", "\n"]:
            self.assert_refused(row, NoRow)

    def test_names_that_are_words_of_the_desk(self):
        for word in DESK_WORDS:
            for row in [f"new {word} {MAP}", f"quiet {word}", f"box {word} ann", f"place {word} ann", f"sign {word} hall ann",
                        f"bars {word} hall ann", f"why {word} hall ann", f"busy {word}", f"copy {word} x", f"copy w {word}",
                        f"history {word}", word]:
                self.assert_refused(row, NoRow)

    def test_deeds_of_a_name_that_is_a_word_of_the_desk(self):
        # Some are rows of another kind: `new` with a world called walk, `sign` of a world called walk.
        for word in DESK_WORDS:
            for deed in ["write cid bob a", "walk bob hall", "ask hall bob", "short hall bob", "hand hall yard"]:
                if word == "new":
                    self.assert_refused(f"{word} {deed}", NoText, row=1)
                elif word in ("sign", "bars", "why") and deed != "write cid bob a":
                    self.assert_refused(f"{word} {deed}", NoSuch, who=deed.split(" ")[0])
                else:
                    self.assert_refused(f"{word} {deed}", NoRow)

    def test_names_that_are_none(self):
        for word in ["W", "abcdefghi", "w1", "w_", "1", "w,", "@", "w@hall", "-"]:
            for row in [f"new {word} {MAP}", f"quiet {word}", f"box {word} ann", f"place {word} ann", f"sign {word} hall ann",
                        f"bars {word} hall ann", f"why {word} hall ann", f"busy {word}", f"copy {word} x", f"copy w {word}",
                        f"history {word}", f"{word} write cid bob a", f"{word} hand hall yard"]:
                self.assert_refused(row, NoRow)

    def test_other_first_words(self):
        for row in ["News w hall", "Busy w", "old w", "box, w ann", "wHy w hall ann"]:
            self.assert_refused(row, NoRow)

    def test_numbers(self):
        for word in ["00", "01", "007", "-1", "+1", "1.0", "x", "1x", "0x1", "1_0", "1,2", "-0", "w"]:
            for row in [f"quiet w {word}", f"quiet w 1 {word}", f"quiet w {word} 1", f"quiet x {word}"]:
                self.assert_refused(row, NoRow)
        self.assertEqual(told().say("quiet w 0 10 100"), "0")

    def test_a_name_that_is_not_kept(self):
        for row in ["quiet x", "quiet x 1", "box x ann", "box x dan", "place x ann", "sign x hall ann", "sign x barn dan", "bars x hall ann",
                    "why x hall ann", "why x barn dan", "busy x", "copy x y", "copy x w", "copy x x", "history x", "x write cid bob a",
                    "x write dan dan A", "x walk bob hall", "x ask hall bob", "x short hall bob", "x hand hall yard", "x hand hall hall"]:
            self.assert_refused(row, NoSuch, who="x")

    def test_no_text(self):
        for words in ["x", "hall", "hall yard", "hall yard ann", "ann@hall hall yard", "hall yard ann@barn", "hall hall ann@hall",
                      "hall yard ann@hall ann@hall", "Hall yard ann@Hall", "new busy copy", "hall yard ann@hall 1"]:
            for name in ("w", "x"):
                self.assert_refused(f"new {name} {words}", NoText, row=1)

    def test_as_told_of_worlds(self):
        for row, error, fields in [
                ("w write dan bob a", NoSuch, {"who": "dan"}), ("w write cid dan a", NoSuch, {"who": "dan"}),
                ("w write dan eve A", NoSuch, {"who": "dan"}), ("w write ann eve A", NoSuch, {"who": "eve"}),
                ("w write cid bob A", NoWord, {}), ("w write ann bob A", NoWord, {}), ("w write cid bob abcdefghijklm", NoWord, {}),
                ("w write ann bob a", Away, {"who": "ann"}), ("w walk dan barn", NoSuch, {"who": "dan"}),
                ("w walk ann barn", Away, {"who": "ann"}), ("w walk cid barn", NoSuch, {"who": "barn"}),
                ("w walk cid hall", NoSuch, {"who": "hall"}), ("w ask barn dan", NoSuch, {"who": "barn"}),
                ("w ask hall dan", NoSuch, {"who": "dan"}), ("w ask yard bob", Here, {"host": "yard", "walker": "bob"}),
                ("w short yard bob", Here, {"host": "yard", "walker": "bob"}),
                ("w short hall bob", NoNews, {"host": "hall", "walker": "bob"}), ("w hand barn hall", NoSuch, {"who": "barn"}),
                ("w hand hall barn", NoSuch, {"who": "barn"}), ("w hand hall hall", NoSuch, {"who": "hall"}),
                ("w hand attic hall", Still, {"source": "attic", "goal": "hall"}), ("box w dan", NoSuch, {"who": "dan"}),
                ("place w hall", NoSuch, {"who": "hall"}), ("sign w barn dan", NoSuch, {"who": "barn"}),
                ("sign w hall dan", NoSuch, {"who": "dan"}), ("bars w ann hall", NoSuch, {"who": "ann"}),
                ("bars w hall hall", NoSuch, {"who": "hall"}), ("why w barn dan", NoSuch, {"who": "barn"}),
                ("why w hall busy", NoSuch, {"who": "busy"}), ("box w new", NoSuch, {"who": "new"}),
                ("w write new busy quiet", NoSuch, {"who": "new"}), ("w hand 1 2", NoSuch, {"who": "1"}),
                ("place w @", NoSuch, {"who": "@"})]:
            self.assert_refused(row, error, **fields)

    def test_begun(self):
        desk = did(*SHORT)
        before = asked(desk, "w")
        with self.assertRaises(Begun) as caught:
            desk.say("w short hall bob")
        self.assertEqual((caught.exception.host, caught.exception.walker), ("hall", "bob"))
        self.assertEqual(asked(desk, "w"), before)

    def test_words_of_the_desk_within_deeds(self):
        desk = Desk()
        self.assertEqual(desk.say("new w new busy quiet@new copy@busy"), "ok")
        self.assertEqual(desk.say("w write quiet copy history"), "ok")
        self.assertEqual(desk.say("w hand new busy"), "letter quiet copy history")
        self.assertEqual((desk.say("box w copy"), desk.say("sign w busy quiet")), ("quiet:history", "new 1"))


if __name__ == "__main__":
    unittest.main()
