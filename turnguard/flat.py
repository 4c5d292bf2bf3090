"""The plain code of a program."""

from turnguard.codes import BOTH
from turnguard.programs import in_order, names_of, statements


def flat(program):
    """The plain code of a program: a row for each statement, as they stand in the text, and one for the answer."""
    boxes = boxes_of(program)
    code = []
    # What is still to come, the next one last: a list, not recursion, so that no depth is too great.
    coming = linked((program[1], 0, statements(program)))
    while coming:
        link = coming.pop()
        statement = link[0]
        if statement[0] in ("if", "while"):
            blocks = blocks_of(statement, len(code), link[1])
            code.append(("fork", boxes[statement[1]], entry(blocks[0]), entry(blocks[1])))
            coming.extend(linked(blocks[1]) + linked(blocks[0]))
        else:
            code.append(row_of(statement, link[1], boxes))
    code.append(("back", boxes[program[2]]))
    return code


def boxes_of(program):
    """The boxes of a program's names."""
    boxes = {}
    for name in names_of(program):
        boxes[name] = len(boxes)
    return boxes


def linked(block):
    """The statements of a block, the last one first, each with the place of what is done next.

    A block is a tuple (statements, the place where they begin, the place of what is done behind them).
    """
    place = block[1] + len(in_order(block[0]))
    behind = block[2]
    found = []
    for statement in reversed(block[0]):
        found.append((statement, behind))
        place -= len(in_order((statement,)))
        behind = place
    return found


def blocks_of(statement, place, behind):
    """What an if or while at a place does where its name is not 0, and where it is: two blocks."""
    first = place + 1
    if statement[0] == "if":
        second = first + len(in_order(statement[2]))
        return [(statement[2], first, behind), (statement[3], second, behind)]
    # Behind its body a while is come to again; without it nothing is done ahead of what is behind the while.
    return [(statement[2], first, place), ((), first, behind)]


def entry(block):
    """The place of what is done first where a block is come to."""
    return block[1] if block[0] else block[2]


def row_of(statement, behind, boxes):
    """The row of a num, copy, op or out."""
    if statement[0] == "num":
        return ("num", BOTH, boxes[statement[1]], statement[2], behind)
    if statement[0] == "copy":
        return ("copy", BOTH, boxes[statement[1]], boxes[statement[2]], behind)
    if statement[0] == "op":
        return ("op", BOTH, statement[2], boxes[statement[1]], boxes[statement[3]], boxes[statement[4]], behind)
    return ("out", boxes[statement[1]], behind)
