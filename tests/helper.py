"""What several tests need: values of any kind, a map, all that an object tells, and drawn courses."""

import random

from walkbox.errors import Away, Begun, Here, NoNews, NoSuch
from walkbox.maps import Map
from walkbox.worlds import World

HOSTS = ["hall", "yard", "attic"]
WALKERS = [("bob", "yard"), ("ann", "hall"), ("cid", "hall")]
NAMES = ["bob", "ann", "cid"]

REFUSALS = (NoSuch, Away, Here, NoNews, Begun)


class Stranger:
    """An object that claims to be equal to everything, and can't be a key."""

    def __eq__(self, other):
        return True


def endless():
    """A list that has itself as its only part."""
    row = []
    row.append(row)
    return row


def deep(times):
    """A list in a list in a list, so often that it can't be compared."""
    row = []
    for _ in range(times):
        row = [row]
    return row


def no_texts():
    """All sorts of values, none of which is a text."""
    return [
        None, True, False, 0, 1, -1, 7, 10 ** 29, -(10 ** 29),
        b"ann", bytearray(b"ann"), range(3), object(), Stranger(), Stranger, len,
        [], ["ann"], ["a", "n"], [["ann"]], (), ("ann",), ("a", "n"), (("ann",),), ("a", []),
        {}, {"ann": "hall"}, {"ann"}, frozenset({"ann"}),
        endless(), deep(3), deep(50000),
    ]


def no_hosts():
    """All sorts of values, none of which is a host of the sample map."""
    return ["bob", "barn", "", "Hall", "hall ", "hall\n", "hall yard", "here"] + no_texts()


def no_walkers():
    """All sorts of values, none of which is a walker of the sample map."""
    return ["hall", "dan", "", "Ann", "ann ", "ann\n", "ann bob", "ann@hall"] + no_texts()


def others_than(thing):
    """All sorts of values that are not what the thing is; no Stranger, which is equal to all."""
    strange = [other for other in no_texts() if not isinstance(other, Stranger)]
    return strange + ["", "hall", sample_map(), type(thing)]


def shown(thing):
    """A short text for a message, of what has none of its own, too."""
    try:
        return repr(thing)[:60]
    except RecursionError:
        return "what lies too deep to be shown"


def sample_map():
    """A map whose orders are not those of the alphabet."""
    return Map(list(HOSTS), list(WALKERS))


def other_maps():
    """Maps that are unlike the sample in one part each, and have all its names."""
    return [
        Map(["yard", "hall", "attic"], list(WALKERS)),
        Map(HOSTS + ["barn"], list(WALKERS)),
        Map(list(HOSTS), [WALKERS[1], WALKERS[0], WALKERS[2]]),
        Map(list(HOSTS), [("bob", "attic"), ("ann", "hall"), ("cid", "hall")]),
        Map(list(HOSTS), WALKERS + [("dan", "hall")]),
    ]


def post_picture(post):
    """All that a post tells."""
    return (post.of_host(), post.of_walker(), post.last(), post.sign(), post.news(), post.bars(), post.height())


def office_picture(office, names=tuple(NAMES)):
    """All that an office tells."""
    return [
        (post_picture(office.post(name)), office.shelf(name).told(), office.rows(name).told(),
         office.rows(name).ahead())
        for name in names
    ]


def world_picture(world):
    """All that a world tells."""
    grounds, links = world.grounds(), world.links()
    names = grounds.walkers()
    return (
        [(post_picture(world.post(host, name)), world.shelf(host, name).told(), world.rows(host, name).told(),
          world.rows(host, name).ahead()) for host in grounds.hosts() for name in names],
        [(source, goal, links.entries(source, goal)) for source in grounds.hosts() for goal in grounds.others(source)],
        [(world.box(name), world.place(name), world.stay(name)) for name in names],
        world.is_quiet(), world.history(), world.log(), world.key(),
    )


def drawn_map(draw):
    """A map of two to six hosts and one to five walkers."""
    hosts = draw.sample(["hall", "yard", "attic", "barn", "gate", "well"], draw.randint(2, 6))
    names = draw.sample(["ann", "bob", "cid", "dan", "eve"], draw.randint(1, 5))
    return Map(hosts, [(name, draw.choice(hosts)) for name in names])


def drawn_deed(draw, world, weights, number):
    """A deed that isn't refused, of any sort that there is just now."""
    hosts, names = world.grounds().hosts(), world.grounds().walkers()
    still = [name for name in names if isinstance(world.place(name), str)]
    away = [(host, name) for host in hosts for name in names if world.post(host, name).sign() != "here"]
    deeds = {
        "write": [("write", name, draw.choice(names), f"w{number}") for name in still],
        "walk": [("walk", name, draw.choice(world.grounds().others(world.place(name)))) for name in still],
        "ask": [("ask", host, name) for host, name in away],
        "short": [("short", host, name) for host, name in away if may_shorten(world.post(host, name))],
        "hand": [("hand", source, goal) for source, goal in world.links().busy()],
    }
    words = [word for word in deeds if deeds[word]]
    return draw.choice(deeds[draw.choices(words, [weights[word] for word in words])[0]])


def may_shorten(post):
    """Whether the way to a walker that isn't here may be shortened by its post."""
    begun = [bar for bar in post.bars() if bar[0] == "short"]
    return post.news() is not None and post.news()[1] > post.sign()[1] and not begun


def drawn_worlds(seed, times):
    """A world behind each of so many drawn deeds, then behind each handing on till it is quiet.

    Told are tuples (world, deed): the world itself, and the deed that was done last.
    """
    draw = random.Random(seed)
    world = World(drawn_map(draw))
    weights = {word: draw.random() for word in ("write", "walk", "ask")}
    weights.update(hand=1 + draw.random(), short=2)
    for number in range(times):
        deed = drawn_deed(draw, world, weights, number)
        world.do(deed)
        yield world, deed
    while not world.is_quiet():
        deed = ("hand", *draw.choice(world.links().busy()))
        world.do(deed)
        yield world, deed


def drawn_world(seed, times):
    """A world behind so many drawn deeds, not quieted."""
    for world, _ in drawn_worlds(seed, times):
        if len(world.history()) >= times:
            return world
    return world
