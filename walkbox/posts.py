"""Posts: what a host knows of a walker, and its echoes that aren't answered yet."""

from walkbox.errors import NoBar, NoSuch, NoTurn

HERE = "here"


class Post:
    """The post of a host and a walker: last, sign, news and bars."""

    def __init__(self, grounds, host, walker):
        grounds.check_host(host)
        # The map itself refuses what is no walker, with NoSuch.
        home = grounds.home(walker)
        self.own_map = grounds
        self.host = host
        self.walker = walker
        self.last_stay = 1 if host == home else 0
        self.sign_now = HERE if host == home else (home, 1)
        self.news_now = None
        self.bars_now = []

    def of_host(self):
        """The name of its host."""
        return self.host

    def of_walker(self):
        """The name of its walker."""
        return self.walker

    def last(self):
        """The number of the walker's last stay here, 0 where it never was."""
        return self.last_stay

    def sign(self):
        """Where the walker is: "here", or a tuple (host, number) by which to send."""
        return self.sign_now

    def news(self):
        """None, or a tuple (host, stay)."""
        return self.news_now

    def bars(self):
        """Tuples (sort, mark, first), in the order in which they were sent."""
        return list(self.bars_now)

    def height(self):
        """The greatest of the numbers in the marks of its bars, 0 without bars."""
        return max([mark[1] for sort, mark, first in self.bars_now], default=0)

    def sign_is_below(self, number):
        """Whether the sign isn't "here", and its number is below this one."""
        return self.sign_now != HERE and self.sign_now[1] < number

    def came(self, stay):
        """The walker has come for a stay. Told is the sign that was."""
        if not self.sign_is_below(stay):
            raise NoTurn(self.host, self.walker)
        before = self.sign_now
        self.sign_now = HERE
        self.last_stay = stay
        return before

    def left(self, goal, stay):
        """The walker has left for another host and the stay there."""
        if not self.own_map.has_host(goal) or goal == self.host:
            raise NoSuch(goal)
        if self.sign_now != HERE or stay != self.last_stay + 1:
            raise NoTurn(self.host, self.walker)
        self.sign_now = (goal, stay)

    def turned(self, host, number):
        """Turn the sign where that leads further. Told is whether it was turned."""
        if not self.sign_is_below(number):
            return False
        self.sign_now = (host, number)
        return True

    def heard(self, host, stay):
        """News are heard, and kept where there are none as late."""
        if self.news_now is None or self.news_now[1] < stay:
            self.news_now = (host, stay)

    def sent(self, sort, mark, *, first):
        """An echo is sent: one bar more."""
        self.bars_now.append((sort, mark, first))

    def answered(self, sort, mark):
        """An echo is answered: the first bar of that sort and mark goes."""
        echoes = [(bar[0], bar[1]) for bar in self.bars_now]
        if (sort, mark) not in echoes:
            raise NoBar(sort, mark)
        del self.bars_now[echoes.index((sort, mark))]

    def copied(self):
        """A post that stands alike, and goes its own way."""
        twin = Post(self.own_map, self.host, self.walker)
        twin.last_stay = self.last_stay
        twin.sign_now = self.sign_now
        twin.news_now = self.news_now
        twin.bars_now = list(self.bars_now)
        return twin

    def __eq__(self, other):
        return (
            isinstance(other, Post)
            and self.own_map == other.own_map
            and self.host == other.host
            and self.walker == other.walker
            and self.last_stay == other.last_stay
            and self.sign_now == other.sign_now
            and self.news_now == other.news_now
            and self.bars_now == other.bars_now
        )
