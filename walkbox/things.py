"""Things, which go over links: letters, echoes, answers and goers."""

from walkbox.maps import is_name, is_word

SORTS = ("came", "short", "ask", "row")


def is_whole(thing, least):
    """Whether it is a whole number from the least on."""
    return isinstance(thing, int) and not isinstance(thing, bool) and thing >= least


def is_pair(thing, least):
    """Whether it is a tuple of a NAME and a whole number from the least on."""
    return (
        isinstance(thing, tuple)
        and len(thing) == 2
        and is_name(thing[0])
        and is_whole(thing[1], least)
    )


def is_sort(thing):
    """Whether it is the sort of an echo."""
    # Only texts are compared: what else is handed in may be equal to anything.
    return is_name(thing) and thing in SORTS


def is_shut(thing):
    """Whether it is a tuple of unlike NAMES, perhaps none."""
    return (
        isinstance(thing, tuple)
        and all([is_name(name) for name in thing])
        and len(set(thing)) == len(thing)
    )


def begins(thing, kind, many):
    """Whether it is a tuple of so many parts, the first of which is the kind."""
    return (
        isinstance(thing, tuple)
        and len(thing) == many
        and is_name(thing[0])
        and thing[0] == kind
    )


def is_letter(thing):
    """Whether it is ("letter", writer, reader, word)."""
    return (
        begins(thing, "letter", 4)
        and is_name(thing[1])
        and is_name(thing[2])
        and is_word(thing[3])
    )


def is_echo(thing):
    """Whether it is ("echo", walker, host, sort, mark)."""
    return (
        begins(thing, "echo", 5)
        and is_name(thing[1])
        and is_name(thing[2])
        and is_sort(thing[3])
        and is_pair(thing[4], 0)
    )


def is_answer(thing):
    """Whether it is ("answer", walker, sort, mark, news)."""
    return (
        begins(thing, "answer", 5)
        and is_name(thing[1])
        and is_sort(thing[2])
        and is_pair(thing[3], 0)
        and is_pair(thing[4], 1)
    )


def is_goer(thing):
    """Whether it is ("goer", walker, stay, shut)."""
    return (
        begins(thing, "goer", 4)
        and is_name(thing[1])
        and is_whole(thing[2], 2)
        and is_shut(thing[3])
    )


def is_parcel(thing):
    """Whether it is a letter or an echo."""
    return is_letter(thing) or is_echo(thing)


def is_thing(thing):
    """Whether it is a thing of any kind."""
    return is_parcel(thing) or is_answer(thing) or is_goer(thing)


def walker_of(thing):
    """The name of the one for whom a thing is."""
    if thing[0] == "letter":
        return thing[2]
    return thing[1]
