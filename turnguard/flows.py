"""Flows: where rows go on to, what they read and give, what is live at a place, and where ways meet."""

from turnguard.codes import BOTH, DEEDS, PARTS

SIDES = (0, 1)


def ways(code):
    """For each place the places to which its row goes on, in the row's order."""
    return [ways_of(row) for row in code]


def ways_of(row):
    """The places to which a row goes on, in its order."""
    return numbers_of(row, "place")


def numbers_of(row, part):
    """The numbers of a row that are such a part of it, as they stand."""
    return [number for own, number in zip(PARTS[row[0]], row[1:]) if own == part]


def to_places(row, moved):
    """A row that goes on to what its places have become, moved telling that of each place."""
    numbers = [moved[number] if part == "place" else number for part, number in zip(PARTS[row[0]], row[1:])]
    return tuple([row[0]] + numbers)


def reads(row):
    """The spots that a row reads, sorted."""
    boxes = numbers_of(row, "box")
    # The first box of a deed is the one that it gives.
    return spots(row, boxes[1:] if row[0] in DEEDS else boxes)


def gives(row):
    """The spots that a row gives, sorted."""
    return spots(row, numbers_of(row, "box")[:1]) if row[0] in DEEDS else []


def spots(row, boxes):
    """The spots of boxes on the sides on which a row works, sorted, each once."""
    found = []
    for side in SIDES:
        if row[0] not in DEEDS or row[1] in (side, BOTH):
            found.extend([(side, box) for box in sorted(set(boxes))])
    return found


def live(code):
    """For each place the spots that are live there, sorted."""
    reading = [reads(row) for row in code]
    giving = [gives(row) for row in code]
    ahead = leading(code)
    found = [[] for row in code]
    for spot in each_once(reading):
        # From where it is read, back along all ways, as long as it is not given.
        coming = [place for place, some in enumerate(reading) if spot in some]
        seen = {}
        while coming:
            place = coming.pop()
            if place not in seen:
                seen[place] = True
                found[place].append(spot)
                coming.extend([other for other in ahead[place] if spot not in giving[other]])
    return found


def each_once(lists):
    """What stands in any of the lists, sorted, each once."""
    found = {}
    for some in lists:
        for thing in some:
            found[thing] = True
    return sorted(found)


def leading(code):
    """For each place the places whose rows go on to it, one for each way."""
    found = [[] for row in code]
    for place, row in enumerate(code):
        for way in ways_of(row):
            found[way].append(place)
    return found


def meets(code):
    """The places to which at least two ways lead, sorted."""
    # The begin is one way to place 0.
    return [place for place, some in enumerate(leading(code)) if len(some) >= (1 if place == 0 else 2)]
