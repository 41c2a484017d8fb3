"""Links: one from each host to each other one, with entries that go in order."""

from walkbox.errors import NoSuch, Still


class Links:
    """All the links of a map. An entry is a tuple (thing, number)."""

    def __init__(self, grounds):
        self.own_map = grounds
        # By sources in order, then by goals in order: busy links are told so.
        self.queues = {
            (source, goal): [] for source in grounds.hosts() for goal in grounds.others(source)
        }

    def queue(self, source, goal):
        """The entries themselves of that link; refuses what is no link."""
        self.own_map.check_host(source)
        if not self.own_map.has_host(goal) or goal == source:
            raise NoSuch(goal)
        return self.queues[(source, goal)]

    def put(self, source, goal, thing, *, number=0):
        """Put an entry behind all others of that link."""
        self.queue(source, goal).append((thing, number))

    def take(self, source, goal):
        """The first entry of that link, which goes from it."""
        queue = self.queue(source, goal)
        if not queue:
            raise Still(source, goal)
        return queue.pop(0)

    def entries(self, source, goal):
        """The entries of that link, in order."""
        return list(self.queue(source, goal))

    def busy(self):
        """The links that have entries, by sources in order, then by goals in order."""
        return [link for link in self.queues if self.queues[link]]

    def copied(self):
        """Links of the same map with the same entries, which go their own way."""
        twin = Links(self.own_map)
        twin.queues = {link: list(self.queues[link]) for link in self.queues}
        return twin

    def __eq__(self, other):
        return (
            isinstance(other, Links)
            and self.own_map == other.own_map
            and self.queues == other.queues
        )

    def __len__(self):
        return len([entry for queue in self.queues.values() for entry in queue])
