"""Thinned code: looks and marks that a number of steps does not need are left out."""

from turnguard.errors import Late
from turnguard.flows import to_places
from turnguard.harms import delay, ended, lasting, way_of


def can_go(code, place):
    """Whether a look or mark that can be left out stands at a place."""
    if not 0 <= place < len(code):
        return False
    row = code[place]
    return row[0] in ("look", "mark") and row[-1] == place + 1


def without(code, place):
    """Code without the look or mark at a place, one that can be left out."""
    # Who went on to the place stays so: what was behind it stands there now.
    moved = [other - 1 if other > place else other for other in range(len(code))]
    return [to_places(row, moved) for row in code[:place] + code[place + 1:]]


def thin(code, number):
    """Code without the looks and marks that are not needed for a delay of at most a number, or Late."""
    found = delay(code)
    if not is_soon(found, number):
        raise Late(found)
    left = code
    fewer = gone_through(left, number)
    while len(fewer) < len(left):
        left = fewer
        fewer = gone_through(left, number)
    return fewer


def is_soon(found, number):
    """Whether a delay that was found is a number, and no greater than another."""
    return found is not None and found <= number


def gone_through(code, number):
    """What is left of code where its places were gone through once, from 0 on."""
    left = list(code)
    place = 0
    while place < len(left):
        if can_go(left, place) and is_soon(delay(without(left, place)), number):
            left = without(left, place)
        else:
            place += 1
    return left


def need(code, place, number):
    """A way of harm of one more harm than a number in code without the look or mark at a place, or None."""
    later = lasting(without(code, place))
    way = way_of(later, ended(later), number + 1)
    return way if len(way) > number else None
