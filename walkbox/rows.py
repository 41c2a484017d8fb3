"""Rows: what was written at a host, kept by its writer and the writer's stay."""


class Row:
    """Parcels in order, and whether it is shut, sent and ended."""

    def __init__(self):
        self.parcels = []
        self.was_shut = False
        self.was_sent = False
        self.was_ended = False

    def is_there(self):
        """Whether it has something, or is shut, or is sent and not ended."""
        return len(self.parcels) > 0 or self.was_shut or (self.was_sent and not self.was_ended)

    def is_ready(self):
        """Whether something may be taken of it."""
        return len(self.parcels) > 0 and not self.was_shut

    def copied(self):
        """A row that stands alike, and goes its own way."""
        twin = Row()
        twin.parcels = list(self.parcels)
        twin.was_shut = self.was_shut
        twin.was_sent = self.was_sent
        twin.was_ended = self.was_ended
        return twin


class Rows:
    """The rows that a host keeps for a walker, by writers and their stays."""

    def __init__(self, grounds):
        self.own_map = grounds
        # By tuples (writer, stay), only rows that are there.
        self.kept_rows = {}
        self.unshut_ahead = {}

    def made(self, writer, stay):
        """The row itself; a new one where it isn't there."""
        return self.kept_rows.setdefault((writer, stay), Row())

    def drop_gone(self, writer, stay):
        """Forget the row where it isn't there any more: it comes anew then."""
        if not self.kept_rows[(writer, stay)].is_there():
            del self.kept_rows[(writer, stay)]

    def put(self, writer, stay, parcel):
        """Put a parcel at the row's end."""
        self.own_map.check_walker(writer)
        self.made(writer, stay).parcels.append(parcel)

    def shut(self, writer, stay):
        """Shut the row, but where it was unshut ahead of that."""
        self.own_map.check_walker(writer)
        if (writer, stay) in self.unshut_ahead:
            del self.unshut_ahead[(writer, stay)]
        else:
            row = self.made(writer, stay)
            row.was_shut = True

    def unshut(self, writer, stay):
        """Unshut the row, or keep in mind that it is unshut ahead."""
        self.own_map.check_walker(writer)
        row = self.kept_rows.get((writer, stay))
        if row is None or not row.was_shut:
            self.unshut_ahead[(writer, stay)] = True
        else:
            row.was_shut = False
            self.drop_gone(writer, stay)

    def ended(self, writer, stay):
        """End the row, where it is there."""
        if self.wanted(writer, stay):
            self.kept_rows[(writer, stay)].was_ended = True
            self.drop_gone(writer, stay)

    def wanted(self, writer, stay):
        """Whether the row is there."""
        self.own_map.check_walker(writer)
        return (writer, stay) in self.kept_rows

    def in_order(self, keys):
        """The keys, by writers in order, of one writer by stays, rising."""
        return [
            (writer, stay)
            for writer in self.own_map.walkers()
            for stay in sorted([number for name, number in keys if name == writer])
        ]

    def taken(self, *, sent=False):
        """The first parcel of the first row that isn't shut and has something.

        It goes from its row, which is sent where that is told. Told is a tuple
        (writer, stay, parcel), or None where there is no such row.
        """
        ready = self.in_order([key for key in self.kept_rows if self.kept_rows[key].is_ready()])
        if not ready:
            return None
        writer, stay = ready[0]
        row = self.kept_rows[(writer, stay)]
        parcel = row.parcels.pop(0)
        if sent:
            row.was_sent = True
        self.drop_gone(writer, stay)
        return (writer, stay, parcel)

    def row_told(self, writer, stay):
        """The row as a tuple (writer, stay, shut, sent, ended, parcels)."""
        row = self.kept_rows[(writer, stay)]
        return (writer, stay, row.was_shut, row.was_sent, row.was_ended, list(row.parcels))

    def told(self):
        """All rows as tuples, by writers in order, of one writer by stays, rising."""
        return [self.row_told(writer, stay) for writer, stay in self.in_order(list(self.kept_rows))]

    def ahead(self):
        """Tuples (writer, stay) of what is unshut ahead, in the same order."""
        return self.in_order(list(self.unshut_ahead))

    def copied(self):
        """Rows that stand alike, and go their own way."""
        twin = Rows(self.own_map)
        twin.kept_rows = {key: self.kept_rows[key].copied() for key in self.kept_rows}
        twin.unshut_ahead = {key: True for key in self.unshut_ahead}
        return twin

    def __eq__(self, other):
        return (
            isinstance(other, Rows)
            and self.own_map == other.own_map
            and self.told() == other.told()
            and self.ahead() == other.ahead()
        )

    def __len__(self):
        return len([parcel for row in self.kept_rows.values() for parcel in row.parcels])
