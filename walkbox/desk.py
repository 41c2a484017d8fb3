"""A desk: it keeps worlds by names, is told rows, and answers each with a text."""

from walkbox.errors import NoRow, NoSuch
from walkbox.histories import history_text, is_deed_row, read_map
from walkbox.maps import is_name
from walkbox.papers import paper
from walkbox.posts import HERE
from walkbox.thingtexts import number_of, thing_text
from walkbox.worlds import World


def link_text(source, goal):
    """Source and goal with `>` between."""
    return f"{source}>{goal}"


def quiet_text(world, words):
    """How many were handed on, quieted by the numbers."""
    return str(world.quieted(choices=[number_of(word) for word in words]))


def box_text(world, words):
    """Of each letter in a box its writer and its word."""
    return " ".join([f"{writer}:{word}" for writer, word in world.box(words[0])])


def place_text(world, words):
    """A walker's host, or its way, and its stay."""
    place = world.place(words[0])
    if isinstance(place, tuple):
        place = link_text(place[0], place[1])
    return f"{place} {world.stay(words[0])}"


def sign_text(world, words):
    """The sign of a post."""
    sign = world.post(words[0], words[1]).sign()
    return HERE if sign == HERE else f"{sign[0]} {sign[1]}"


def bars_text(world, words):
    """The bars of a post."""
    bars = world.post(words[0], words[1]).bars()
    return " ".join([f"{sort},{mark[0]},{mark[1]},{first}" for sort, mark, first in bars])


def why_text(world, words):
    """The paper of a host and a walker."""
    told = paper(world, words[0], words[1])
    if told is None:
        return "free"
    steps, end = told
    parts = [f"{host},{sort},{first}" for host, sort, mark, first in steps]
    return " ".join(parts + [link_text(end[1], end[2])])


def busy_text(world, words):
    """The busy links."""
    return " ".join([link_text(source, goal) for source, goal in world.busy()])


def all_text(world, words):
    """The history's text."""
    return history_text(world.history())


def deed_text(world, words):
    """Do a deed: of `hand` the text of the thing, else `ok`."""
    entry = world.do(tuple(words))
    return "ok" if entry is None else thing_text(entry[0])


# Of the rows that ask a world something: how many words follow its name.
MORE_WORDS = {"box": 1, "place": 1, "sign": 2, "bars": 2, "why": 2, "busy": 0, "history": 0}

ANSWERS = {
    "quiet": quiet_text,
    "box": box_text,
    "place": place_text,
    "sign": sign_text,
    "bars": bars_text,
    "why": why_text,
    "busy": busy_text,
    "history": all_text,
}


def is_world_name(word):
    """Whether a world may have it as its name: a NAME that is no word of the desk."""
    return is_name(word) and word not in ANSWERS and word not in ("new", "copy")


def is_row(words):
    """Whether words are a row, by what they are and how many."""
    first, more = words[0], words[2:]
    if is_world_name(first):
        return is_deed_row(words[1:])
    if len(words) < 2 or not is_world_name(words[1]):
        return False
    if first == "new":
        return len(more) > 0
    if first == "copy":
        return len(more) == 1 and is_world_name(more[0])
    if first == "quiet":
        return all([number_of(word) is not None for word in more])
    return MORE_WORDS.get(first) == len(more)


def words_of(row):
    """The words of a row; NoRow, of anything that is none."""
    if not isinstance(row, str):
        raise NoRow("what is no text is no row")
    words = row.split(" ")
    if "\n" in row or "" in words or not is_row(words):
        raise NoRow("this text is no row")
    return words


class Desk:
    """Worlds by names."""

    def __init__(self):
        self.worlds = {}

    def world_by(self, name):
        """The world itself that is kept by a name."""
        if name not in self.worlds:
            raise NoSuch(name)
        return self.worlds[name]

    def say(self, row):
        """Tell the desk a row. Told is its answer."""
        first, second, *more = words_of(row)
        if first == "new":
            self.worlds[second] = World(read_map(" ".join(more)))
            return "ok"
        if first == "copy":
            self.worlds[more[0]] = self.world_by(second).copied()
            return "ok"
        if first in ANSWERS:
            answer = ANSWERS[first]
            return answer(self.world_by(second), more)
        return deed_text(self.world_by(first), [second] + more)
