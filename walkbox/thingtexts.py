"""Things as texts: their parts in order, with one blank between."""

from walkbox.errors import NoThing
from walkbox.maps import FIGURES, is_text_of
from walkbox.things import is_thing


def thing_text(thing):
    """The text of a thing."""
    words = []
    for part in thing:
        if isinstance(part, tuple):
            words.extend([str(inner) for inner in part])
        else:
            words.append(str(part))
    return " ".join(words)


def number_of(word):
    """The whole number that a word tells in figures, None where it tells none."""
    if not is_text_of(word, FIGURES, len(word)):
        return None
    if word.startswith("0") and word != "0":
        return None
    # Figure by figure: int() itself refuses a text of some thousand figures.
    number = 0
    for figure in word:
        number = number * 10 + FIGURES.index(figure)
    return number


def pair_of(name, word):
    """The mark or the news that two words tell, where they tell any."""
    return (name, number_of(word))


def told_by(words):
    """The thing that the words tell; something that is no thing where they tell none."""
    kind, many = words[0], len(words)
    if kind == "echo" and many == 6:
        return (kind, words[1], words[2], words[3], pair_of(words[4], words[5]))
    if kind == "answer" and many == 7:
        return (kind, words[1], words[2], pair_of(words[3], words[4]), pair_of(words[5], words[6]))
    if kind == "goer" and many >= 3:
        return (kind, words[1], number_of(words[2]), tuple(words[3:]))
    return tuple(words)


def thing_of(text):
    """The thing of which it is the text; NoThing, of anything."""
    if not isinstance(text, str):
        raise NoThing("what is no text is the text of no thing")
    thing = told_by(text.split(" "))
    if not is_thing(thing):
        raise NoThing("this text is the text of no thing")
    return thing
