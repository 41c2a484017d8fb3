"""Histories and maps as texts."""

from walkbox.errors import Away, Begun, Here, NoMap, NoNews, NoSuch, NoText, NoWord, Still
from walkbox.maps import Map
from walkbox.worlds import World

# How many words the row of a deed has, by its first word.
DEED_WORDS = {"write": 4, "walk": 3, "ask": 3, "short": 3, "hand": 3}


def history_text(deeds):
    """The text of a history: of each deed a row, with a line feed behind."""
    return "".join([" ".join(deed) + "\n" for deed in deeds])


def is_deed_row(words):
    """Whether words are the row of a deed, by the first and how many they are."""
    return len(words) > 0 and DEED_WORDS.get(words[0]) == len(words)


def is_done(world, row):
    """Do the deed of a row in a world. Told is whether it is one, and wasn't refused."""
    words = row.split(" ")
    if not is_deed_row(words):
        return False
    try:
        world.do(tuple(words))
    except (NoSuch, NoWord, Away, Here, NoNews, Begun, Still):
        return False
    return True


def read_history(grounds, text):
    """The history of some world of the map of which it is the text; NoText, of anything."""
    if not isinstance(text, str):
        raise NoText(0)
    *rows, rest = text.split("\n")
    world = World(grounds)
    for number, row in enumerate(rows, start=1):
        if not is_done(world, row):
            raise NoText(number)
    if rest != "":
        raise NoText(len(rows) + 1)
    return world.history()


def map_text(grounds):
    """The text of a map: its hosts, then its walkers with their homes."""
    walkers = [f"{walker}@{grounds.home(walker)}" for walker in grounds.walkers()]
    return " ".join(grounds.hosts() + walkers)


def read_map(text):
    """The map of which it is the text; NoText, of anything."""
    if not isinstance(text, str):
        raise NoText(0)
    words = text.split(" ")
    hosts = [word for word in words if "@" not in word]
    walkers = [tuple(word.split("@")) for word in words if "@" in word]
    try:
        grounds = Map(hosts, walkers)
    except NoMap:
        raise NoText(1) from None
    # A host behind a walker is a map, too, but not by this text.
    if map_text(grounds) != text:
        raise NoText(1)
    return grounds
