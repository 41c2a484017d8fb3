"""Offices: all that a host does with what comes to it, for each walker."""

from walkbox.errors import Begun, Here, NoNews
from walkbox.posts import HERE, Post
from walkbox.rows import Rows
from walkbox.shelves import Shelf
from walkbox.things import walker_of


class Office:
    """The office of a host: of each walker a post, a shelf and rows.

    What is done to it tells what happens: a tuple (sends, reads) of lists, of
    tuples (goal, thing, number) and of tuples (reader, writer, word).
    """

    def __init__(self, grounds, host):
        grounds.check_host(host)
        self.own_map = grounds
        self.host = host
        self.posts = {walker: Post(grounds, host, walker) for walker in grounds.walkers()}
        self.shelves = {walker: Shelf() for walker in grounds.walkers()}
        self.all_rows = {walker: Rows(grounds) for walker in grounds.walkers()}

    def take_in(self, thing, *, number=0):
        """A thing is taken in with a number."""
        walker = walker_of(thing)
        self.own_map.check_walker(walker)
        sends, reads = [], []
        if thing[0] == "goer":
            self.take_goer(thing, sends)
        elif thing[0] == "answer":
            self.take_answer(thing)
        else:
            self.shelves[walker].put(number, thing)
        self.let_pass(walker, sends, reads)
        return (sends, reads)

    def take_goer(self, goer, sends):
        """The walker comes, behind an echo by the way on which it was known to be."""
        kind, walker, stay, shut = goer
        post = self.posts[walker]
        # Refused ahead of all, so on a copy first: the echo goes by the sign that was.
        post.copied().came(stay)
        self.send_echo(walker, "came", (walker, stay), sends)
        post.came(stay)
        for reader in shut:
            self.all_rows[reader].shut(walker, stay)

    def take_answer(self, answer):
        """News are heard, and what the echo was sent for is done."""
        kind, walker, sort, mark, news = answer
        post = self.posts[walker]
        if sort != "row":
            # Ahead of the news, as this may be refused.
            post.answered(sort, mark)
        post.heard(news[0], news[1])
        if sort == "row":
            self.all_rows[walker].unshut(mark[0], mark[1])
        if sort == "short":
            post.turned(mark[0], mark[1])

    def send_echo(self, walker, sort, mark, sends):
        """An echo to this host goes by the walker's sign, and is a bar."""
        post = self.posts[walker]
        goal, number = post.sign()
        post.sent(sort, mark, first=number)
        sends.append((goal, ("echo", walker, self.host, sort, mark), number))

    def let_pass(self, walker, sends, reads):
        """Passing for a walker, as long as something passes."""
        parcel = self.next_parcel(walker)
        while parcel is not None:
            self.pass_parcel(walker, parcel, sends, reads)
            parcel = self.next_parcel(walker)

    def next_parcel(self, walker):
        """The parcel that passes next, which goes from its place; None without one."""
        post = self.posts[walker]
        if post.height() == 0:
            of_row = self.all_rows[walker].taken(sent=post.sign() != HERE)
            if of_row is not None:
                return of_row[2]
        of_shelf = self.shelves[walker].taken(height=post.height())
        return None if of_shelf is None else of_shelf[1]

    def pass_parcel(self, walker, parcel, sends, reads):
        """A parcel is sent on, read or answered."""
        sign = self.posts[walker].sign()
        if sign != HERE:
            sends.append((sign[0], parcel, sign[1]))
        elif parcel[0] == "letter":
            reads.append((walker, parcel[1], parcel[3]))
        else:
            self.answer_echo(parcel, sends)

    def answer_echo(self, echo, sends):
        """The answer to an echo goes to its host; one to this host is taken in at once."""
        kind, walker, host, sort, mark = echo
        answer = ("answer", walker, sort, mark, (self.host, self.posts[walker].last()))
        if host == self.host:
            # The passing under way goes on behind it, so that none is begun here.
            self.take_answer(answer)
        else:
            sends.append((host, answer, 0))

    def write(self, writer, stay, reader, word):
        """A letter is written, at that stay of its writer."""
        self.own_map.check_walker(writer)
        self.own_map.check_walker(reader)
        sends, reads = [], []
        self.all_rows[reader].put(writer, stay, ("letter", writer, reader, word))
        self.let_pass(reader, sends, reads)
        return (sends, reads)

    def leave(self, walker, stay, goal):
        """A walker leaves, by its stay, for a goal."""
        self.own_map.check_walker(walker)
        # Refused ahead of all, so on a copy first: rows are ended by the sign that was.
        self.posts[walker].copied().left(goal, stay + 1)
        sends, reads, shut = [], [], []
        for reader in self.own_map.walkers():
            if self.all_rows[reader].wanted(walker, stay):
                echo = ("echo", reader, goal, "row", (walker, stay + 1))
                self.all_rows[reader].put(walker, stay, echo)
                self.all_rows[reader].ended(walker, stay)
                self.let_pass(reader, sends, reads)
                shut.append(reader)
        self.posts[walker].left(goal, stay + 1)
        sends.append((goal, ("goer", walker, stay + 1, tuple(shut)), 0))
        return (sends, reads)

    def check_away(self, walker):
        """Refuse what is no walker of the map, and one that is here."""
        self.own_map.check_walker(walker)
        if self.posts[walker].sign() == HERE:
            raise Here(self.host, walker)

    def ask(self, walker):
        """A walker is asked for."""
        self.check_away(walker)
        sends = []
        self.send_echo(walker, "ask", (walker, 0), sends)
        return (sends, [])

    def shorten(self, walker):
        """The way to a walker is shortened, by the news of it."""
        self.check_away(walker)
        post = self.posts[walker]
        news = post.news()
        if news is None or news[1] <= post.sign()[1]:
            raise NoNews(self.host, walker)
        if "short" in [sort for sort, mark, first in post.bars()]:
            raise Begun(self.host, walker)
        sends = []
        self.send_echo(walker, "short", news, sends)
        return (sends, [])

    def post(self, walker):
        """A copy of the walker's post."""
        self.own_map.check_walker(walker)
        return self.posts[walker].copied()

    def shelf(self, walker):
        """A copy of the walker's shelf."""
        self.own_map.check_walker(walker)
        return self.shelves[walker].copied()

    def rows(self, walker):
        """A copy of the walker's rows."""
        self.own_map.check_walker(walker)
        return self.all_rows[walker].copied()

    def copied(self):
        """An office that stands alike, and goes its own way."""
        twin = Office(self.own_map, self.host)
        for walker in self.own_map.walkers():
            twin.posts[walker] = self.posts[walker].copied()
            twin.shelves[walker] = self.shelves[walker].copied()
            twin.all_rows[walker] = self.all_rows[walker].copied()
        return twin

    def standing(self):
        """How many parcels stand on its shelves and in its rows."""
        return sum([len(self.shelves[name]) + len(self.all_rows[name]) for name in self.own_map.walkers()])

    def state_of(self, walker):
        """All that post, shelf and rows of a walker tell."""
        post, rows = self.posts[walker], self.all_rows[walker]
        return (
            post.last(), post.sign(), post.news(), post.bars(),
            self.shelves[walker].told(), rows.told(), rows.ahead(),
        )

    def state(self):
        """What is alike for two offices of a map and a host just where they are equal."""
        return [self.state_of(walker) for walker in self.own_map.walkers()]

    def __eq__(self, other):
        return (
            isinstance(other, Office)
            and self.own_map == other.own_map
            and self.host == other.host
            and self.posts == other.posts
            and self.shelves == other.shelves
            and self.all_rows == other.all_rows
        )
