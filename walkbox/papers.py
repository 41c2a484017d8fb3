"""Papers: by what something waits, from echo to echo, up to a link."""


def holder(world, host, walker):
    """The bar of the post that makes its height; None where the height is 0."""
    post = world.post(host, walker)
    height = post.height()
    if height == 0:
        return None
    return [bar for bar in post.bars() if bar[1][1] == height][0]


def is_answer_to(thing, walker, sort, mark):
    """Whether it is an answer to an echo of that walker, sort and mark."""
    return thing[0] == "answer" and thing[1:4] == (walker, sort, mark)


def on_links(world, echo):
    """Where the echo, or the answer to it, is on a link; None where it is on none."""
    kind, walker, host, sort, mark = echo
    links = world.links()
    for source, goal in links.busy():
        for at, (thing, number) in enumerate(links.entries(source, goal)):
            if thing == echo or (goal == host and is_answer_to(thing, walker, sort, mark)):
                return ("link", source, goal, at)
    return None


def at_host(world, place, echo):
    """Where the echo stands at a host, on the walker's shelf or in its rows; None without it."""
    walker = echo[1]
    for number, parcel in world.shelf(place, walker).told():
        if parcel == echo:
            return ("shelf", place, number)
    for writer, stay, shut, sent, ended, parcels in world.rows(place, walker).told():
        if echo in parcels:
            return ("row", place, writer, stay)
    return None


def whereabouts(world, host, walker, sort, mark):
    """Where the echo to a host of a walker, a sort and a mark is, or the answer to it; None if nowhere."""
    world.grounds().check_host(host)
    world.grounds().check_walker(walker)
    echo = ("echo", walker, host, sort, mark)
    found = on_links(world, echo)
    for place in world.grounds().hosts():
        if found is None:
            found = at_host(world, place, echo)
    return found


def step_at(world, host, walker):
    """The step of a paper at a host: the host and its holder; None without a holder."""
    bar = holder(world, host, walker)
    return None if bar is None else (host, *bar)


def echo_of_step(world, walker, step):
    """Where the echo of a paper's step is."""
    host, sort, mark, first = step
    return whereabouts(world, host, walker, sort, mark)


def paper(world, host, walker):
    """By which echoes something waits at a host for a walker: a tuple (steps, end), or None."""
    step = step_at(world, host, walker)
    if step is None:
        return None
    steps = [step]
    end = echo_of_step(world, walker, step)
    while end[0] == "shelf":
        step = step_at(world, end[1], walker)
        steps.append(step)
        end = echo_of_step(world, walker, step)
    return (steps, end)


def is_shut_row(world, host, writer, stay, walker):
    """Whether a host has that row of a writer and a stay, of the walker's, and it is shut."""
    return (writer, stay, True) in [row[:3] for row in world.rows(host, walker).told()]


def row_paper(world, writer, stay, walker):
    """By which echoes a shut row waits: a tuple (steps, end), or None without such a row."""
    world.grounds().check_walker(writer)
    world.grounds().check_walker(walker)
    shut_at = [host for host in world.grounds().hosts() if is_shut_row(world, host, writer, stay, walker)]
    if not shut_at:
        return None
    steps = [(shut_at[0], stay)]
    end = whereabouts(world, shut_at[0], walker, "row", (writer, stay))
    while end[0] == "row" and is_shut_row(world, end[1], end[2], end[3], walker):
        steps.append((end[1], end[3]))
        end = whereabouts(world, end[1], walker, "row", (writer, end[3]))
    return (steps, end)
