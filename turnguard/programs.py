"""Programs: what a name is, which names a program has, how many statements."""

# 2 ** 48: values are below it.
VALUE_END = 281474976710656
SIGNS = ("+", "-", "*", "/", "<", "=", "&", "|", "^")
WORDS = ("in", "out", "back", "if", "else", "while")
LONGEST_NAME = 8

# Where, in a statement's tuple, its own names stand, in the order in which they are written.
NAMES_AT = {"num": (1,), "copy": (1, 2), "op": (1, 3, 4), "out": (1,), "if": (1,), "while": (1,)}
# Where the statements that it holds stand.
BLOCKS_AT = {"if": (2, 3), "while": (2,)}


def is_name(text):
    """Whether a text is a name."""
    if not 1 <= len(text) <= LONGEST_NAME or text in WORDS:
        return False
    return all(["a" <= letter <= "z" for letter in text])


def in_order(body):
    """All statements of a body, as they stand in the text: each ahead of those that it holds."""
    # A list of what is still to come, not recursion, so that no depth is too great.
    coming = list(reversed(body))
    found = []
    while coming:
        statement = coming.pop()
        found.append(statement)
        for k in reversed(BLOCKS_AT.get(statement[0], ())):
            coming.extend(list(reversed(statement[k])))
    return found


def names_of(program):
    """The names of a program, each once: params, then the others as they first stand, the answer last."""
    seen = {}
    for name in program[0]:
        seen[name] = True
    for statement in in_order(program[1]):
        for k in NAMES_AT[statement[0]]:
            seen[statement[k]] = True
    seen[program[2]] = True
    return list(seen)


def statements(program):
    """How many statements a program has, all those within others counted."""
    return len(in_order(program[1]))
