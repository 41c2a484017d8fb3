"""Shelves: parcels that wait at a host, by numbers."""


class Shelf:
    """Parcels by numbers, those of one number in the order in which they were put."""

    def __init__(self):
        # Always in the order in which it is told: tuples (number, parcel).
        self.kept = []

    def put(self, number, parcel):
        """Put a parcel behind those of its number."""
        ahead = [row for row in self.kept if row[0] <= number]
        self.kept.insert(len(ahead), (number, parcel))

    def taken(self, *, height=0):
        """The first parcel of the least number not below the height, with that number.

        It goes from the shelf. None where there is none so.
        """
        below = [row for row in self.kept if row[0] < height]
        if len(below) == len(self.kept):
            return None
        return self.kept.pop(len(below))

    def told(self):
        """Tuples (number, parcel), by numbers, rising, of one number as they were put."""
        return list(self.kept)

    def copied(self):
        """A shelf with the same parcels, which goes its own way."""
        twin = Shelf()
        twin.kept = list(self.kept)
        return twin

    def __eq__(self, other):
        return isinstance(other, Shelf) and self.kept == other.kept

    def __len__(self):
        return len(self.kept)
