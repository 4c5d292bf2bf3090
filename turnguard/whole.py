"""The whole: a text's guard, and a trial of code."""

from turnguard.flat import flat
from turnguard.harden import harden
from turnguard.harms import delay
from turnguard.texts import read
from turnguard.thin import thin
from turnguard.twins import twin


def guard(text, number=None):
    """A text's program, its hardened code, thinned, and the number that it was thinned to; or NoProgram, Late."""
    program = read(text)
    hardened = harden(flat(program))
    if number is None:
        number = delay(hardened)
    return (program, thin(hardened, number), number)


def trial(code, args, turns, most=400):
    """How code's run with turns ends, held against the one without: ("alike", None), ("cried", steps), ("else", None).

    The steps are those behind the last turn that was done.
    """
    found = twin(code, args, turns, most)
    if found == twin(code, args, None, most):
        return ("alike", None)
    if found[0] != "cry":
        return ("else", None)
    # A turn was done where a step came behind it.
    return ("cried", found[3] - max([step for step, what in turns if step < found[3]]))
