"""Harm: as what it lasts, and how long it may last in code."""

from turnguard.flows import gives, live, reads, ways_of

# The rows at which the harm of a spot of their box, and of the mark, lasts no longer.
ENDS_OF_SPOTS = ("look", "out", "back")
ENDS_OF_MARKS = ("mark", "out", "back")


def lasts(code, harm):
    """The harms as which a harm of code lasts, each once, sorted."""
    return lasts_by(code[harm[0]], harm[1], live(code))


def lasts_by(row, thing, lively):
    """The harms as which a thing lasts by a row of code, lively being what is live at each place of it."""
    later = things_behind(row, thing)
    found = []
    for way in ways_of(row):
        found.extend([(way, other) for other in later if other == "mark" or other in lively[way]])
    return sorted(set(found))


def things_behind(row, thing):
    """The things as which a thing lasts behind a row, where they are live."""
    if thing == "mark":
        return [] if row[0] in ENDS_OF_MARKS else ["mark"]
    if row[0] in ENDS_OF_SPOTS and row[1] == thing[1]:
        return []
    given = gives(row)
    found = [] if thing in given else [thing]
    # Only deeds give, so that of other rows nothing comes here.
    if thing in reads(row):
        found.extend([spot for spot in given if spot[0] == thing[0]])
    return found


def lasting(code):
    """A dict from all harms of code, by their places, to the harms as which they last."""
    lively = live(code)
    found = {}
    for place, row in enumerate(code):
        for thing in lively[place] + ["mark"]:
            found[(place, thing)] = lasts_by(row, thing, lively)
    return found


def delays(code):
    """A dict from all harms of code to their delays, or None where it has none."""
    return lengths(lasting(code))


def lengths(later):
    """The number of harms of the longest way from each harm on, or None where ways go round."""
    earlier = turned(later)
    found = dict([(harm, 1) for harm in later])
    waiting = dict([(harm, len(later[harm])) for harm in later])
    # From the harms that last no longer back: each is done when all as which it lasts are.
    ready = [harm for harm in later if waiting[harm] == 0]
    done = 0
    while ready:
        harm = ready.pop()
        done += 1
        for other in earlier[harm]:
            found[other] = max(found[other], found[harm] + 1)
            waiting[other] -= 1
            if waiting[other] == 0:
                ready.append(other)
    # Harms that go round wait for one another, and are never done.
    return found if done == len(later) else None


def turned(later):
    """A dict from all harms to those that last as them."""
    found = dict([(harm, []) for harm in later])
    for harm in later:
        for other in later[harm]:
            found[other].append(harm)
    return found


def delay(code):
    """The delay of code: the greatest of its harms', or None where it has none."""
    found = delays(code)
    return None if found is None else max(found.values())


def longest(code):
    """A longest way of harm in code, or None where there is none."""
    later = lasting(code)
    found = lengths(later)
    if found is None:
        return None
    coming = list(later)
    way = []
    while coming:
        harm = max(coming, key=lambda other: found[other])
        way.append(harm)
        coming = later[harm]
    return way
