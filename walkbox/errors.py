"""The refusals of Walkbox, each with the fields by which it is made.

None of them puts a message together: Python shows an error by what it was
made of, and a field may be anything, so showing it ahead of need could fail.
"""


class WalkError(ValueError):
    """What was handed in is not of the form that is wanted."""


class NoMap(WalkError):
    """Hosts and walkers that are no map: what is wrong, and whose it is."""

    def __init__(self, what, who):
        self.what = what
        self.who = who


class NoTurn(WalkError):
    """A walker that can't come to this host, or leave it, just now."""

    def __init__(self, host, walker):
        self.host = host
        self.walker = walker


class NoPlan(WalkError):
    """Rows that are no plan: who tells the row."""

    def __init__(self, who):
        self.who = who


class NoText(WalkError):
    """A text that is no history or no map: row tells where, from 1."""

    def __init__(self, row):
        self.row = row


class NoThing(WalkError):
    """What is the text of no thing. Made of a text."""


class NoWord(WalkError):
    """What is no WORD. Made of a text."""


class NoRow(WalkError):
    """What is no row for a desk. Made of a text."""


class NoSuch(LookupError):
    """A name, or whatever stands for one, that is not known."""

    def __init__(self, who):
        self.who = who


class Still(IndexError):
    """A link that has no entry to take."""

    def __init__(self, source, goal):
        self.source = source
        self.goal = goal


class NoBar(KeyError):
    """An answer to an echo that is no bar: its sort and its mark."""

    def __init__(self, what, mark):
        self.what = what
        self.mark = mark


class Away(RuntimeError):
    """A walker that is on its way, and so at no host."""

    def __init__(self, who):
        self.who = who


class Here(RuntimeError):
    """A walker that is at this host already."""

    def __init__(self, host, walker):
        self.host = host
        self.walker = walker


class NoNews(RuntimeError):
    """A host that knows nothing newer of a walker than its sign."""

    def __init__(self, host, walker):
        self.host = host
        self.walker = walker


class Begun(RuntimeError):
    """A way that is being shortened already."""

    def __init__(self, host, walker):
        self.host = host
        self.walker = walker


class TooMany(ArithmeticError):
    """More than a limit."""

    def __init__(self, limit):
        self.limit = limit
