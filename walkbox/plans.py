"""Plans: what each walker is to do, in order; and plans under way."""

from walkbox.errors import NoPlan, NoSuch
from walkbox.maps import is_name, is_word
from walkbox.things import begins
from walkbox.worlds import World


def is_planned(grounds, deed):
    """Whether it is a deed of a plan: ("write", reader, word) or ("walk", goal)."""
    if begins(deed, "write", 3):
        return grounds.has_walker(deed[1]) and is_word(deed[2])
    return begins(deed, "walk", 2) and grounds.has_host(deed[1])


def check_row(grounds, used, at, row):
    """Refuse what can't be the row at this place, with these walkers used."""
    if not isinstance(row, tuple) or len(row) != 2:
        raise NoPlan(str(at))
    walker, deeds = row
    if not grounds.has_walker(walker) or walker in used:
        raise NoPlan(str(at))
    if not isinstance(deeds, list) or not all([is_planned(grounds, deed) for deed in deeds]):
        raise NoPlan(walker)


def check_rows(grounds, rows):
    """Refuse what can't be the rows of a plan."""
    if not isinstance(rows, list):
        raise NoPlan("rows")
    used = []
    for at, row in enumerate(rows):
        check_row(grounds, used, at, row)
        used.append(row[0])


class Plan:
    """A map, and rows: tuples (walker, deeds)."""

    def __init__(self, grounds, rows):
        check_rows(grounds, rows)
        self.own_map = grounds
        self.plan_rows = [(walker, list(deeds)) for walker, deeds in rows]

    def grounds(self):
        """The map."""
        return self.own_map

    def rows(self):
        """The rows, in order."""
        return [(walker, list(deeds)) for walker, deeds in self.plan_rows]

    def __eq__(self, other):
        return (
            isinstance(other, Plan)
            and self.own_map == other.own_map
            and self.plan_rows == other.plan_rows
        )

    def __len__(self):
        return len([deed for walker, deeds in self.plan_rows for deed in deeds])


def may_be_move(thing):
    """Whether it is of the form of a move: a name, or a tuple of two names."""
    # Only texts are compared: what else is handed in may be equal to anything.
    return is_name(thing) or (
        isinstance(thing, tuple) and len(thing) == 2 and is_name(thing[0]) and is_name(thing[1])
    )


class Course:
    """A plan under way: a world, and of each walker how many of its deeds are done."""

    def __init__(self, plan):
        self.own_plan = plan
        self.scene = World(plan.grounds())
        # The deeds are never changed here, so that copies share them.
        self.deeds_of = {walker: [] for walker in plan.grounds().walkers()}
        self.deeds_of.update(dict(plan.rows()))
        self.done_by = {walker: 0 for walker in plan.grounds().walkers()}

    def world(self):
        """A copy of the world."""
        return self.scene.copied()

    def can_go(self, walker):
        """Whether a walker has a deed left, and is at a host."""
        return self.left(walker) > 0 and not isinstance(self.scene.place(walker), tuple)

    def moves(self):
        """The moves there are: names of walkers, then busy links, each in order."""
        walkers = [walker for walker in self.deeds_of if self.can_go(walker)]
        return walkers + self.scene.busy()

    def go(self, move):
        """A walker does its next deed, or a link is handed on."""
        if not may_be_move(move) or move not in self.moves():
            raise NoSuch(move)
        if isinstance(move, tuple):
            self.scene.hand(move[0], move[1])
        else:
            self.do_next(move)

    def do_next(self, walker):
        """A walker does its next deed; a walk to where it is comes to nothing."""
        word, *parts = self.deeds_of[walker][self.done_by[walker]]
        if word == "write":
            self.scene.write(walker, parts[0], parts[1])
        elif parts[0] != self.scene.place(walker):
            self.scene.walk(walker, parts[0])
        self.done_by[walker] += 1

    def left(self, walker):
        """How many deeds a walker has left."""
        self.own_plan.grounds().check_walker(walker)
        return len(self.deeds_of[walker]) - self.done_by[walker]

    def outcome(self):
        """What each walker has read: tuples (walker, box), in order."""
        return tuple([(walker, tuple(self.scene.box(walker))) for walker in self.deeds_of])

    def standing(self):
        """How many parcels stand, on all shelves and in all rows together."""
        return self.scene.standing()

    def copied(self):
        """A plan under way that stands alike, and goes its own way."""
        twin = Course(self.own_plan)
        twin.scene = self.scene.copied()
        twin.done_by = dict(self.done_by)
        return twin

    def key(self):
        """A text, alike for two courses of equal plans just where worlds and deeds left are."""
        return "\n".join([self.scene.key(), repr(list(self.done_by.values()))])
