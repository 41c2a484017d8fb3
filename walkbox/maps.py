"""Names and words, and maps: hosts, and walkers with their homes."""

from walkbox.errors import NoMap, NoSuch

LETTERS = "abcdefghijklmnopqrstuvwxyz"
FIGURES = "0123456789"


def is_text_of(thing, signs, most):
    """Whether it is a text of one to so many of these signs."""
    return (
        isinstance(thing, str)
        and 1 <= len(thing) <= most
        and all([sign in signs for sign in thing])
    )


def is_name(thing):
    """Whether it is a NAME: one to eight small letters."""
    return is_text_of(thing, LETTERS, 8)


def is_word(thing):
    """Whether it is a WORD: one to twelve small letters and figures."""
    return is_text_of(thing, LETTERS + FIGURES, 12)


def check_hosts(hosts):
    """Refuse what can't be the hosts of a map."""
    if not isinstance(hosts, list):
        raise NoMap("hosts", "")
    for at, name in enumerate(hosts):
        if not is_name(name):
            raise NoMap("name", str(at))
        if name in hosts[:at]:
            raise NoMap("again", name)
    if not 2 <= len(hosts) <= 6:
        raise NoMap("many", "hosts")


def check_walker(hosts, used, at, row):
    """Refuse what can't be the walker at this place, with these names used."""
    if not isinstance(row, tuple) or len(row) != 2:
        raise NoMap("walker", str(at))
    name, home = row
    if not is_name(name):
        raise NoMap("name", str(at))
    if name in used:
        raise NoMap("again", name)
    # Only texts are compared: what else is handed in may be equal to anything.
    if not is_name(home) or home not in hosts:
        raise NoMap("home", name)


def check_walkers(hosts, walkers):
    """Refuse what can't be the walkers of a map with these hosts."""
    if not isinstance(walkers, list):
        raise NoMap("walkers", "")
    used = list(hosts)
    for at, row in enumerate(walkers):
        check_walker(hosts, used, at, row)
        used.append(row[0])
    if not 1 <= len(walkers) <= 5:
        raise NoMap("many", "walkers")


class Map:
    """Two to six hosts, and one to five walkers, each with a home there."""

    def __init__(self, hosts, walkers):
        check_hosts(hosts)
        check_walkers(hosts, walkers)
        self.host_names = list(hosts)
        self.homes = [(name, home) for name, home in walkers]

    def hosts(self):
        """The names of the hosts, in order."""
        return list(self.host_names)

    def walkers(self):
        """The names of the walkers, in order."""
        return [name for name, home in self.homes]

    def home(self, walker):
        """The host at which the walker is at first."""
        self.check_walker(walker)
        return dict(self.homes)[walker]

    def others(self, host):
        """The hosts but this one, in order."""
        self.check_host(host)
        return [name for name in self.host_names if name != host]

    def has_host(self, name):
        """Whether it is the name of a host."""
        return is_name(name) and name in self.host_names

    def has_walker(self, name):
        """Whether it is the name of a walker."""
        return is_name(name) and name in self.walkers()

    def check_host(self, name):
        """Refuse what is no host, of anything."""
        if not self.has_host(name):
            raise NoSuch(name)

    def check_walker(self, name):
        """Refuse what is no walker, of anything."""
        if not self.has_walker(name):
            raise NoSuch(name)

    def __eq__(self, other):
        return (
            isinstance(other, Map)
            and self.host_names == other.host_names
            and self.homes == other.homes
        )

    def __len__(self):
        return len(self.host_names)

    def __repr__(self):
        return f"Map({self.host_names!r}, {self.homes!r})"
