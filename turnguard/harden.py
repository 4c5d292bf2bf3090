"""Hardened code: plain code whose deeds are done on one side, then on the other, with looks where ways meet."""

from turnguard.codes import DEEDS
from turnguard.flows import SIDES, live, meets, to_places


def harden(code):
    """Hardened code, of plain code."""
    looked = looks(code)
    firsts = first_places(code, looked)
    hardened = []
    for place, row in enumerate(code):
        for box in looked.get(place, []):
            hardened.append(("look", box, len(hardened) + 1))
        if place in looked:
            hardened.append(("mark", len(hardened) + 1))
        hardened.extend(doubled(to_places(row, firsts), len(hardened)))
    return hardened


def looks(code):
    """A dict from the meets of plain code to the boxes that are looked at there, rising."""
    lively = live(code)
    return dict([(place, sorted(set([spot[1] for spot in lively[place]]))) for place in meets(code)])


def first_places(code, looked):
    """For each place of plain code the place of the first row that is put for it."""
    firsts = []
    many = 0
    for place, row in enumerate(code):
        firsts.append(many)
        if place in looked:
            many += len(looked[place]) + 1
        many += len(SIDES) if row[0] in DEEDS else 1
    return firsts


def doubled(row, place):
    """The rows by which a row is done from a place on: of a deed one for each side, else itself."""
    if row[0] not in DEEDS:
        return [row]
    # Side 0's goes on to side 1's, which goes on as the deed did.
    return [row[:1] + (0,) + row[2:-1] + (place + 1,), row[:1] + (1,) + row[2:]]
