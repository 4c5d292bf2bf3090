"""The plain walk of a program."""

from turnguard.signs import value


def walk(program, args, most=400):
    """Walk a program, its args given for its params, in at most so many steps: (word, sent, answer, steps)."""
    held = dict(zip(program[0], args))
    sent = []
    # What is still to come, the next one last: a list, not recursion, so that no depth is too great.
    coming = list(reversed(program[1]))
    steps = 0
    while steps < most:
        steps += 1
        if not coming:
            return ("back", sent, held.get(program[2], 0), steps)
        statement = coming.pop()
        if statement[0] == "out":
            sent.append(held.get(statement[1], 0))
        elif statement[0] in ("if", "while"):
            coming.extend(list(reversed(chosen(statement, held))))
        else:
            held[statement[1]] = given(statement, held)
    return ("tired", sent, None, steps)


def chosen(statement, held):
    """The statements that come straight behind an if or a while that was come to."""
    full = held.get(statement[1], 0) != 0
    if statement[0] == "if":
        return statement[2] if full else statement[3]
    # A while is come to again behind its body.
    return statement[2] + (statement,) if full else ()


def given(statement, held):
    """What a num, copy or op gives to its name."""
    if statement[0] == "num":
        return statement[2]
    if statement[0] == "copy":
        return held.get(statement[2], 0)
    return value(statement[2], held.get(statement[3], 0), held.get(statement[4], 0))
