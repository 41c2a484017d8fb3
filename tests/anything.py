"""What a caller may hand in where the document says "of anything"."""


class Stranger:
    """An object that claims to be equal to everything, and can't be a key."""

    def __eq__(self, other):
        return True


def endless():
    """A list that has itself as its only part."""
    row = []
    row.append(row)
    return row


def deep(times):
    """A list in a list in a list, so often that it can't be compared."""
    row = []
    for _ in range(times):
        row = [row]
    return row


def no_texts():
    """All sorts of values, none of which is a text."""
    return [
        None, True, False, 0, 1, -1, 7, 10 ** 29, -(10 ** 29),
        b"ann", bytearray(b"ann"), range(3), object(), Stranger(), Stranger, len,
        [], ["ann"], ["a", "n"], [["ann"]], (), ("ann",), ("a", "n"), (("ann",),), ("a", []),
        {}, {"ann": "hall"}, {"ann"}, frozenset({"ann"}),
        endless(), deep(3), deep(50000),
    ]


def shown(thing):
    """A short text for a message, of what has none of its own, too."""
    try:
        return repr(thing)[:60]
    except RecursionError:
        return "what lies too deep to be shown"
