"""The judge: all that a plan under way can come to."""

from walkbox.errors import TooMany
from walkbox.plans import Course

LIMIT = 2000


class Verdict:
    """What the judge tells of a plan."""

    def __init__(self):
        self.courses_seen = 0
        # By outcomes, in the order in which they were found: the way to each.
        self.ways = {}
        self.most_standing = 0

    def note(self, course, way):
        """One more course, with the way that led to it."""
        self.courses_seen += 1
        self.most_standing = max(self.most_standing, course.standing())
        if not course.moves():
            self.ways.setdefault(course.outcome(), way)

    def many(self):
        """How many courses there are."""
        return self.courses_seen

    def outcomes(self):
        """Tuples (outcome, way), in the order in which they were found."""
        return [(outcome, list(self.ways[outcome])) for outcome in self.ways]

    def greatest(self):
        """The greatest number of parcels that stand on shelves and in rows in one course."""
        return self.most_standing


def new_courses(course, way, seen, limit):
    """What a course comes to by one move and wasn't seen before: tuples (course, way)."""
    found = []
    for move in course.moves():
        twin = course.copied()
        twin.go(move)
        key = twin.key()
        if key not in seen:
            if len(seen) == limit:
                raise TooMany(limit)
            seen[key] = True
            found.append((twin, way + [move]))
    return found


def judged(plan, *, limit=LIMIT):
    """Go through all that a plan can come to, breadth first."""
    verdict = Verdict()
    start = Course(plan)
    seen = {start.key(): True}
    layer = [(start, [])]
    while layer:
        further = []
        for course, way in layer:
            verdict.note(course, way)
            further.extend(new_courses(course, way, seen, limit))
        layer = further
    return verdict
