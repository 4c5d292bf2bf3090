"""Code: which code fits, which is plain, and the plain run of plain code."""

from turnguard.programs import VALUE_END
from turnguard.signs import value

SIDES_END = 3
BOXES_END = 8
BOTH = 2
DEEDS = ("num", "copy", "op")

# What stands behind the word of each form of row, in order.
PARTS = {
    "num": ("side", "box", "value", "place"),
    "copy": ("side", "box", "box", "place"),
    "op": ("side", "sign", "box", "box", "box", "place"),
    "out": ("box", "place"),
    "fork": ("box", "place", "place"),
    "look": ("box", "place"),
    "mark": ("place",),
    "back": ("box",),
}


def fits(code):
    """Whether code has a row at least, and all numbers in its rows are within their bounds."""
    return len(code) > 0 and all([row_fits(row, len(code)) for row in code])


def row_fits(row, places):
    """Whether a row fits into code of so many places."""
    ends = {"side": SIDES_END, "box": BOXES_END, "value": VALUE_END, "place": places}
    return all([0 <= number < ends[part] for part, number in zip(PARTS[row[0]], row[1:]) if part in ends])


def is_plain(code):
    """Whether code has no look and no mark, and all its deeds are on both sides."""
    return all([is_plain_row(row) for row in code])


def is_plain_row(row):
    """Whether a row may stand in plain code."""
    if row[0] in DEEDS:
        return row[1] == BOTH
    return row[0] not in ("look", "mark")


def run(code, args, most=400):
    """The plain run of plain code, in at most so many steps: (word, sent, answer, steps)."""
    boxes = dict(enumerate(args))
    sent = []
    place = 0
    steps = 0
    while steps < most:
        steps += 1
        row = code[place]
        if row[0] == "back":
            return ("back", sent, boxes.get(row[1], 0), steps)
        if row[0] == "out":
            sent.append(boxes.get(row[1], 0))
        elif row[0] in DEEDS:
            do_deed(row, boxes)
        place = onward(row, boxes)
    return ("tired", sent, None, steps)


def do_deed(row, boxes):
    """Do a deed in boxes, those that are not there holding 0."""
    if row[0] == "num":
        boxes[row[2]] = row[3]
    elif row[0] == "copy":
        boxes[row[2]] = boxes.get(row[3], 0)
    else:
        boxes[row[3]] = value(row[2], boxes.get(row[4], 0), boxes.get(row[5], 0))


def onward(row, boxes):
    """The place to which a row other than a back goes on."""
    if row[0] == "fork":
        return row[2] if boxes.get(row[1], 0) != 0 else row[3]
    return row[-1]
