"""Harm: as what it lasts, and how long it may last in code."""

from turnguard.flows import gives, live, reads, ways_of

# The rows at which the harm of a spot of their box, and of the mark, lasts no longer.
ENDS_OF_SPOTS = ("look", "out", "back")
ENDS_OF_MARKS = ("mark", "out", "back")


def lasts(code, harm):
    """The harms as which a harm of code lasts, each once, sorted."""
    return lasts_by(code[harm[0]], [harm[1]], live(code))[0]


def lasts_by(row, things, lively):
    """For each of the things the harms as which it lasts by a row of code, lively being what is live at each place."""
    # Told once for all things: to ask the row anew for each of them takes most of the time.
    taken = reads(row)
    given = gives(row)
    onward = ways_of(row)
    return [at_ways(onward, things_behind(row, thing, taken, given), lively) for thing in things]


def at_ways(onward, things, lively):
    """The harms of such things at places, where they are live there, each once, sorted."""
    found = []
    for way in onward:
        found.extend([(way, thing) for thing in things if thing == "mark" or thing in lively[way]])
    return sorted(set(found))


def things_behind(row, thing, taken, given):
    """The things as which a thing lasts behind a row that reads what is taken and gives what is given, where live."""
    if thing == "mark":
        return [] if row[0] in ENDS_OF_MARKS else ["mark"]
    if row[0] in ENDS_OF_SPOTS and row[1] == thing[1]:
        return []
    found = [] if thing in given else [thing]
    # Only deeds give, so that of other rows nothing comes here.
    if thing in taken:
        found.extend([spot for spot in given if spot[0] == thing[0]])
    return found


def lasting(code):
    """A dict from all harms of code, by their places, to the harms as which they last."""
    lively = live(code)
    found = {}
    for place, row in enumerate(code):
        things = lively[place] + ["mark"]
        for thing, later in zip(things, lasts_by(row, things, lively)):
            found[(place, thing)] = later
    return found


def delays(code):
    """A dict from all harms of code to their delays, or None where it has none."""
    return lengths(lasting(code))


def lengths(later):
    """The number of harms of the longest way from each harm on, or None where ways have no longest one."""
    found = ended(later)
    return found if len(found) == len(later) else None


def ended(later):
    """A dict from those harms whose ways have a longest one to the number of its harms."""
    earlier = turned(later)
    waiting = dict([(harm, len(later[harm])) for harm in later])
    # From the harms that last no longer back: each is ready when all as which it lasts are done.
    ready = [harm for harm in later if waiting[harm] == 0]
    found = {}
    while ready:
        harm = ready.pop()
        found[harm] = 1 + max([found[other] for other in later[harm]], default=0)
        for other in earlier[harm]:
            waiting[other] -= 1
            if waiting[other] == 0:
                ready.append(other)
    # Harms that go round wait for one another, and those that last as them wait too: they are never ready.
    return found


def turned(later):
    """A dict from all harms to those that last as them."""
    found = dict([(harm, []) for harm in later])
    for harm in later:
        for other in later[harm]:
            found[other].append(harm)
    return found


def delay(code):
    """The delay of code: the greatest of its harms', or None where it has none."""
    found = delays(code)
    return None if found is None else max(found.values())


def longest(code):
    """A longest way of harm in code, or None where there is none."""
    later = lasting(code)
    found = lengths(later)
    # Where none goes round, no way has more harms than there are.
    return None if found is None else way_of(later, found, len(later))


def way_of(later, found, most):
    """A way of as many harms as can be, but at most so many; found tells of each harm what ended does."""
    coming = list(later)
    way = []
    while coming and len(way) < most:
        # Harms whose ways have no longest one are not in found, and are good for any number.
        harm = max(coming, key=lambda other: found.get(other, most))
        way.append(harm)
        coming = later[harm]
    return way
