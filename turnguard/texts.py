"""Texts: programs read and written."""

from turnguard.errors import NoProgram
from turnguard.programs import SIGNS, VALUE_END, is_name

FIGURES = "0123456789"
# No value has more figures than this; longer words are never made into numbers.
MOST_FIGURES = 15


class Block:
    """Statements whose end is not read yet: word is "whole" for the body, else "if", "else" or "while"."""

    def __init__(self, word, name):
        self.word = word
        self.name = name
        self.yes = ()
        self.inner = []


def read(text):
    """The program that a text writes, or NoProgram."""
    rows = text.split("\n")
    params = read_params(rows[0].split(" "))
    if params is None:
        raise NoProgram(0)
    blocks = [Block("whole", "")]
    for number, row in enumerate(rows[1:], start=1):
        words = row.split(" ")
        if is_back(words) and len(blocks) == 1:
            if number + 1 < len(rows):
                raise NoProgram(number + 1)
            return (params, tuple(blocks[0].inner), words[1])
        if not take(blocks, words):
            raise NoProgram(number)
    raise NoProgram(len(rows))


def read_params(words):
    """The params of the first row, or None where it is no such row."""
    params = words[1:]
    if words[0] != "in" or not all([is_name(word) for word in params]):
        return None
    if len(set(params)) < len(params):
        return None
    return tuple(params)


def is_back(words):
    """Whether a row tells the answer."""
    return len(words) == 2 and words[0] == "back" and is_name(words[1])


def take(blocks, words):
    """Put a row of the body into the innermost block; False where it can't stand there."""
    if words == ["}"]:
        return close(blocks)
    if words == ["}", "else", "{"]:
        return begin_else(blocks[-1])
    if is_head(words):
        blocks.append(Block(words[0], words[1]))
        return True
    statement = read_statement(words)
    if statement is None:
        return False
    blocks[-1].inner.append(statement)
    return True


def is_head(words):
    """Whether a row begins an if or a while."""
    return len(words) == 3 and words[0] in ("if", "while") and is_name(words[1]) and words[2] == "{"


def begin_else(block):
    """Go on to the second block of an if; False where that can't be."""
    if block.word != "if":
        return False
    block.word = "else"
    block.yes = tuple(block.inner)
    block.inner = []
    return True


def close(blocks):
    """End the innermost block; False where that can't be."""
    block = blocks[-1]
    # An else with nothing in it is refused, for the same program is written without it.
    if block.word == "whole" or (block.word == "else" and not block.inner):
        return False
    blocks.pop()
    blocks[-1].inner.append(closed(block))
    return True


def closed(block):
    """The statement that a block, now whole, makes."""
    inner = tuple(block.inner)
    if block.word == "while":
        return ("while", block.name, inner)
    if block.word == "else":
        return ("if", block.name, block.yes, inner)
    return ("if", block.name, inner, ())


def read_statement(words):
    """The num, copy, op or out that a row writes, or None."""
    if len(words) == 2 and words[0] == "out" and is_name(words[1]):
        return ("out", words[1])
    if len(words) < 3 or not is_name(words[0]) or words[1] != "=":
        return None
    if len(words) == 3:
        return read_simple(words[0], words[2])
    if len(words) == 5 and is_name(words[2]) and words[3] in SIGNS and is_name(words[4]):
        return ("op", words[0], words[3], words[2], words[4])
    return None


def read_simple(name, word):
    """The copy or num that gives a name what a word tells, or None."""
    if is_name(word):
        return ("copy", name, word)
    number = read_number(word)
    if number is None:
        return None
    return ("num", name, number)


def read_number(word):
    """The value that a word writes by its figures, or None."""
    if not 1 <= len(word) <= MOST_FIGURES or not all([figure in FIGURES for figure in word]):
        return None
    if word[0] == "0" and len(word) > 1:
        return None
    number = int(word)
    return number if number < VALUE_END else None


def write(program):
    """The one text of a program."""
    rows = [" ".join(["in"] + list(program[0]))]
    # Statements and, as texts, the rows that part and close their blocks.
    coming = list(reversed(program[1]))
    while coming:
        thing = coming.pop()
        if isinstance(thing, str):
            rows.append(thing)
        else:
            rows.append(" ".join(written(thing)))
            coming.extend(list(reversed(held(thing))))
    rows.append(" ".join(["back", program[2]]))
    return "\n".join(rows)


def written(statement):
    """The words of a statement's own row."""
    kind = statement[0]
    if kind == "out":
        return ["out", statement[1]]
    if kind in ("if", "while"):
        return [kind, statement[1], "{"]
    if kind == "op":
        return [statement[1], "=", statement[3], statement[2], statement[4]]
    return [statement[1], "=", str(statement[2])]


def held(statement):
    """What comes behind a statement's own row: the statements that it holds, and the rows round them."""
    if statement[0] == "while":
        return list(statement[2]) + ["}"]
    if statement[0] != "if":
        return []
    if statement[3] == ():
        return list(statement[2]) + ["}"]
    return list(statement[2]) + ["} else {"] + list(statement[3]) + ["}"]
