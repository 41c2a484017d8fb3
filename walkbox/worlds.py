"""Worlds: offices, links, boxes and walkers, in which the asker says what happens next."""

from walkbox.errors import Away, NoSuch, NoWord, TooMany
from walkbox.links import Links
from walkbox.maps import is_word
from walkbox.offices import Office

MOST = 100000


class World:
    """A world of a map, as it stands behind all deeds that it has done."""

    def __init__(self, grounds):
        self.own_map = grounds
        # Copies of a world share its offices, so none of these is changed: a copy takes its place.
        self.offices = {host: Office(grounds, host) for host in grounds.hosts()}
        # What `key` tells of each office; the text without signs where it was changed since.
        self.office_texts = {host: "" for host in grounds.hosts()}
        self.net = Links(grounds)
        self.boxes = {walker: [] for walker in grounds.walkers()}
        self.places = {walker: grounds.home(walker) for walker in grounds.walkers()}
        self.stays = {walker: 1 for walker in grounds.walkers()}
        self.deeds_done = []
        # Beside the list itself, as a `finally` can't ask for its length.
        self.many_done = 0
        self.log_rows = []

    def host_of(self, walker):
        """The host where the walker is; Away where it is on its way."""
        if isinstance(self.places[walker], tuple):
            raise Away(walker)
        return self.places[walker]

    def office_at(self, host):
        """The office of a host, to be changed."""
        self.office_texts[host] = ""
        self.offices[host] = self.offices[host].copied()
        return self.offices[host]

    def settle(self, host, happens, deed):
        """What happens at a host is done, and the deed that it comes from stands in the history."""
        sends, reads = happens
        for goal, thing, number in sends:
            self.net.put(host, goal, thing, number=number)
        for reader, writer, word in reads:
            self.boxes[reader].append((writer, word))
        self.deeds_done.append(deed)
        self.many_done += 1

    def write(self, writer, reader, word):
        """A letter is written at the writer's place."""
        self.own_map.check_walker(writer)
        self.own_map.check_walker(reader)
        if not is_word(word):
            raise NoWord("a letter has one WORD, and this is none")
        host = self.host_of(writer)
        happens = self.office_at(host).write(writer, self.stays[writer], reader, word)
        self.settle(host, happens, ("write", writer, reader, word))

    def walk(self, walker, goal):
        """A walker leaves its place for another host."""
        self.own_map.check_walker(walker)
        host = self.host_of(walker)
        happens = self.office_at(host).leave(walker, self.stays[walker], goal)
        self.places[walker] = (host, goal)
        self.stays[walker] += 1
        self.settle(host, happens, ("walk", walker, goal))

    def ask(self, host, walker):
        """A walker is asked for at a host."""
        self.own_map.check_host(host)
        happens = self.office_at(host).ask(walker)
        self.settle(host, happens, ("ask", host, walker))

    def shorten(self, host, walker):
        """The way to a walker is shortened at a host."""
        self.own_map.check_host(host)
        happens = self.office_at(host).shorten(walker)
        self.settle(host, happens, ("short", host, walker))

    def hand(self, source, goal):
        """The first entry of a link is handed on, and told."""
        thing, number = self.net.take(source, goal)
        happens = self.office_at(goal).take_in(thing, number=number)
        if thing[0] == "goer":
            self.places[thing[1]] = goal
        self.settle(goal, happens, ("hand", source, goal))
        return (thing, number)

    def quieted(self, *, choices=(), most=MOST):
        """Hand on as long as a link is busy, which one by the numbers. Told is how many were."""
        many = 0
        busy = self.net.busy()
        while busy:
            if many == most:
                raise TooMany(most)
            at = choices[many] % len(busy) if many < len(choices) else 0
            source, goal = busy[at]
            self.hand(source, goal)
            many += 1
            busy = self.net.busy()
        return many

    def do(self, deed):
        """Do one deed. Told is the entry of a hand, else None."""
        word, *parts = deed
        if word == "hand":
            return self.hand(*parts)
        if word == "write":
            self.write(*parts)
        elif word == "walk":
            self.walk(*parts)
        elif word == "ask":
            self.ask(*parts)
        elif word == "short":
            self.shorten(*parts)
        else:
            raise NoSuch(word)
        return None

    def run(self, deeds):
        """Do the deeds, one by one, up to the first that is refused. Told is how many were done."""
        self.log_rows.append(("begin", self.many_done))
        try:
            for deed in deeds:
                self.do(deed)
        finally:
            self.log_rows.append(("end", self.many_done))
        return len(deeds)

    def grounds(self):
        """The map."""
        return self.own_map

    def box(self, walker):
        """What the walker has read: tuples (writer, word), in order."""
        self.own_map.check_walker(walker)
        return list(self.boxes[walker])

    def place(self, walker):
        """The host where the walker is, or a tuple (source, goal) where it is on its way."""
        self.own_map.check_walker(walker)
        return self.places[walker]

    def stay(self, walker):
        """The number of the walker's stay, on its way that of the one to come."""
        self.own_map.check_walker(walker)
        return self.stays[walker]

    def post(self, host, walker):
        """A copy of the walker's post at a host."""
        self.own_map.check_host(host)
        return self.offices[host].post(walker)

    def shelf(self, host, walker):
        """A copy of the walker's shelf at a host."""
        self.own_map.check_host(host)
        return self.offices[host].shelf(walker)

    def rows(self, host, walker):
        """A copy of the walker's rows at a host."""
        self.own_map.check_host(host)
        return self.offices[host].rows(walker)

    def links(self):
        """A copy of the links."""
        return self.net.copied()

    def busy(self):
        """The busy links, in order."""
        return self.net.busy()

    def standing(self):
        """How many parcels stand, on all shelves and in all rows together."""
        return sum([office.standing() for office in self.offices.values()])

    def is_quiet(self):
        """Whether no link is busy."""
        return len(self.net) == 0

    def history(self):
        """All deeds that were done, in order."""
        return list(self.deeds_done)

    def log(self):
        """For each running ("begin", how many were done) and ("end", how many were done)."""
        return list(self.log_rows)

    def copied(self):
        """A world that stands alike, log and history too, and goes its own way."""
        twin = World(self.own_map)
        twin.offices = dict(self.offices)
        twin.office_texts = dict(self.office_texts)
        twin.net = self.net.copied()
        twin.boxes = {walker: list(self.boxes[walker]) for walker in self.boxes}
        twin.places = dict(self.places)
        twin.stays = dict(self.stays)
        twin.deeds_done = list(self.deeds_done)
        twin.many_done = self.many_done
        twin.log_rows = list(self.log_rows)
        return twin

    def __eq__(self, other):
        return (
            isinstance(other, World)
            and self.own_map == other.own_map
            and self.places == other.places
            and self.stays == other.stays
            and self.boxes == other.boxes
            and self.net == other.net
            and self.offices == other.offices
        )

    def office_text(self, host):
        """A text, alike for the offices of two worlds of equal maps just where they are equal."""
        if self.office_texts[host] == "":
            self.office_texts[host] = repr(self.offices[host].state())
        return self.office_texts[host]

    def key(self):
        """A text, alike for two worlds of equal maps just where they are equal."""
        rows = [self.office_text(host) for host in self.own_map.hosts()]
        rows.append(repr([(link, self.net.entries(link[0], link[1])) for link in self.net.busy()]))
        for walker in self.own_map.walkers():
            rows.append(repr((self.places[walker], self.stays[walker], self.boxes[walker])))
        return "\n".join(rows)
