"""The twin machine: runs code with all boxes on two sides, while bits may be turned, and cries where it sees that."""

from turnguard.codes import BOTH, DEEDS, do_deed, onward
from turnguard.flows import SIDES


class Twin:
    """A twin machine at work; word is "" as long as it has not ended, then "back" or "cry"."""

    def __init__(self, code, args):
        # A copy, for what is done later to the code that was handed in changes nothing here.
        self.code = list(code)
        self.sides = [dict(enumerate(args)) for side in SIDES]
        self.at = 0
        self.marked = 0
        self.word = ""
        self.sent = []
        self.answer = None
        self.steps = 0

    def box(self, side, k):
        """The value in a box of a side."""
        return self.sides[side].get(k, 0)

    def place(self):
        """The place of the row that comes next, or that the machine has ended at."""
        return self.at

    def mark(self):
        """The mark."""
        return self.marked

    def told(self):
        """The run so far: (word, sent, answer, steps)."""
        return (self.word, list(self.sent), self.answer, self.steps)

    def turn(self, what):
        """Turn a bit of a box, of the mark or of the place."""
        if self.word != "":
            return
        bit = 1 << what[-1]
        if what[0] == "box":
            self.sides[what[1]][what[2]] = self.box(what[1], what[2]) ^ bit
        elif what[0] == "mark":
            self.marked = self.marked ^ bit
        else:
            self.at = self.at ^ bit

    def step(self):
        """Take a step."""
        if self.word != "":
            return
        self.steps += 1
        if self.must_cry():
            self.word = "cry"
        else:
            self.do_row(self.code[self.at])

    def must_cry(self):
        """Whether the step that comes is a cry."""
        if self.at >= len(self.code):
            return True
        row = self.code[self.at]
        if row[0] in ("mark", "out", "back") and self.marked != self.at:
            return True
        if row[0] == "fork":
            return (self.box(0, row[1]) == 0) != (self.box(1, row[1]) == 0)
        return row[0] in ("look", "out", "back") and self.box(0, row[1]) != self.box(1, row[1])

    def do_row(self, row):
        """Do a row at which there is no cry, and go on from it."""
        if row[0] == "back":
            self.word = "back"
            self.answer = self.box(0, row[1])
            return
        if row[0] == "out":
            self.sent.append(self.box(0, row[1]))
        elif row[0] in DEEDS:
            for side in SIDES:
                if row[1] in (side, BOTH):
                    do_deed(row, self.sides[side])
        self.go_on(onward(row, self.sides[0]))

    def go_on(self, to):
        """Go on to a place; the mark goes with it, and keeps what was turned."""
        self.marked = self.marked ^ self.at ^ to
        self.at = to


def twin(code, args, turns=None, most=400):
    """The twin machine's run of code with turns, in at most so many steps: (word, sent, answer, steps)."""
    due = {} if turns is None else dict(turns)
    machine = Twin(code, args)
    while machine.word == "" and machine.steps < most:
        if machine.steps in due:
            machine.turn(due[machine.steps])
        machine.step()
    found = machine.told()
    return found if found[0] != "" else ("tired",) + found[1:]
