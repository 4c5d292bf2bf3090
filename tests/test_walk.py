import copy
import random
import unittest

from turnguard.programs import names_of
from turnguard.signs import value
from turnguard.texts import read
from turnguard.walk import walk

LAST = 2 ** 48 - 1
SIGNS = "+ - * / < = & | ^".split(" ")

COUNT_DOWN = read("in n\none = 1\nwhile n {\nout n\nn = n - one\n}\nback n")
TIMES = read("in a b\none = 1\nwhile a {\nm = b\nwhile m {\ns = s + one\nm = m - one\n}\nout s\na = a - one\n}\nback s")
CHOOSE = read("in a\nif a {\nx = 5\nout x\n} else {\nx = 7\n}\nout a\nback x")
CHOOSE_OR_NOT = read("in a\nif a {\nx = 5\nout x\n}\nout a\nback x")
FOR_EVER = read("in a\nwhile a {\nout a\n}\nback a")


def plain_steps(program, args):
    """Each step of a walk told one by one, as ("sent", value), ("quiet", None) or ("back", answer): a second
    reckoning, by recursion over the blocks."""
    held = {name: 0 for name in names_of(program)}
    for name, number in zip(program[0], args):
        held[name] = number

    def block(body):
        for statement in body:
            word = statement[0]
            if word == "out":
                yield ("sent", held[statement[1]])
                continue
            if word == "while":
                while held[statement[1]]:
                    yield ("quiet", None)
                    yield from block(statement[2])
                yield ("quiet", None)
                continue
            yield ("quiet", None)
            if word == "num":
                held[statement[1]] = statement[2]
            elif word == "copy":
                held[statement[1]] = held[statement[2]]
            elif word == "op":
                held[statement[1]] = value(statement[2], held[statement[3]], held[statement[4]])
            else:
                yield from block(statement[2] if held[statement[1]] else statement[3])

    yield from block(program[1])
    yield ("back", held[program[2]])


def expected_run(program, args, most):
    sent = []
    steps = 0
    coming = plain_steps(program, args)
    while steps < most:
        word, number = next(coming)
        steps += 1
        if word == "back":
            return ("back", sent, number, steps)
        if word == "sent":
            sent.append(number)
    return ("tired", sent, None, steps)


def kinds_are_right(told):
    """Whether a run is told with the kinds of a run."""
    word, sent, answer, steps = told
    numbers = sent + [steps] + ([] if word == "tired" else [answer])
    return (type(told) is tuple and type(sent) is list and all(type(number) is int for number in numbers)
            and (word == "back" or (word == "tired" and answer is None)))


class Case(unittest.TestCase):
    def walked(self, program, args, word, sent, answer, steps):
        """The run with ample bound, and with every lower one."""
        told = walk(program, args, 3000)
        self.assertEqual(told, (word, sent, answer, steps))
        self.assertTrue(kinds_are_right(told))
        self.assertEqual(walk(program, args, steps), told)
        done = 0
        for most in range(steps):
            tired = walk(program, args, most)
            self.assertTrue(kinds_are_right(tired))
            self.assertEqual(tired, ("tired", sent[:len(tired[1])], None, most))
            self.assertLessEqual(done, len(tired[1]))
            self.assertLessEqual(len(tired[1]), done + 1)
            done = len(tired[1])


class Statements(Case):
    def test_no_statement(self):
        self.walked(((), (), "x"), [], "back", [], 0, 1)
        self.walked((("a",), (), "a"), [9], "back", [], 9, 1)
        self.walked((("a",), (), "b"), [9], "back", [], 0, 1)

    def test_num(self):
        for number in (0, 1, 77, LAST):
            self.walked(((), (("num", "x", number),), "x"), [], "back", [], number, 2)
        self.walked((("x",), (("num", "x", 0),), "x"), [5], "back", [], 0, 2)

    def test_copy(self):
        self.walked((("a",), (("copy", "x", "a"),), "x"), [LAST], "back", [], LAST, 2)
        self.walked((("a",), (("copy", "a", "x"),), "a"), [LAST], "back", [], 0, 2)
        self.walked((("a",), (("copy", "a", "a"),), "a"), [4], "back", [], 4, 2)

    def test_a_copy_does_not_follow_what_it_was_made_of(self):
        body = (("copy", "x", "a"), ("num", "a", 1))
        self.walked((("a",), body, "x"), [4], "back", [], 4, 3)
        self.walked((("a",), body, "a"), [4], "back", [], 1, 3)

    def test_op(self):
        for sign, answer in zip(SIGNS, (16, 8, 48, 3, 0, 0, 4, 12, 8)):
            self.walked((("a", "b"), (("op", "x", sign, "a", "b"),), "x"), [12, 4], "back", [], answer, 2)
        for sign, answer in zip(SIGNS, (16, LAST - 7, 48, 0, 1, 0, 4, 12, 8)):
            self.walked((("a", "b"), (("op", "x", sign, "b", "a"),), "x"), [12, 4], "back", [], answer, 2)

    def test_op_into_a_name_that_it_reads(self):
        self.walked((("a", "b"), (("op", "a", "-", "a", "b"),), "a"), [9, 4], "back", [], 5, 2)
        self.walked((("a", "b"), (("op", "b", "-", "a", "b"),), "b"), [9, 4], "back", [], 5, 2)
        self.walked((("a",), (("op", "a", "*", "a", "a"),), "a"), [9], "back", [], 81, 2)

    def test_op_of_names_that_nothing_was_given(self):
        self.walked(((), (("op", "x", "=", "y", "z"),), "x"), [], "back", [], 1, 2)
        self.walked((("a",), (("op", "x", "/", "a", "z"),), "x"), [9], "back", [], 0, 2)

    def test_out(self):
        self.walked((("a", "b"), (("out", "b"), ("out", "x"), ("out", "a"), ("out", "b")), "x"), [3, LAST],
                    "back", [LAST, 0, 3, LAST], 0, 5)

    def test_what_was_sent_stays(self):
        self.walked((("a",), (("out", "a"), ("num", "a", 1), ("out", "a")), "a"), [3], "back", [3, 1], 1, 4)


class Ifs(Case):
    def test_by_both_blocks(self):
        for full in (1, 2, 2 ** 47, LAST):
            self.walked(CHOOSE, [full], "back", [5, full], 5, 5)
        self.walked(CHOOSE, [0], "back", [0], 7, 4)

    def test_without_a_second_block(self):
        self.walked(CHOOSE_OR_NOT, [2], "back", [5, 2], 5, 5)
        self.walked(CHOOSE_OR_NOT, [0], "back", [0], 0, 3)

    def test_without_a_first_block(self):
        program = read("in a\nif a {\n} else {\nx = 7\n}\nback x")
        self.walked(program, [1], "back", [], 0, 2)
        self.walked(program, [0], "back", [], 7, 3)

    def test_without_any(self):
        for number in (0, 1):
            self.walked(read("in a\nif a {\n}\nback a"), [number], "back", [], number, 2)

    def test_asked_once_though_its_block_changes_the_name(self):
        self.walked(read("in a\nif a {\na = 0\n} else {\na = 1\n}\nback a"), [1], "back", [], 0, 3)
        self.walked(read("in a\nif a {\na = 0\n} else {\na = 1\n}\nback a"), [0], "back", [], 1, 3)

    def test_one_within_another(self):
        program = read("in a b\nif a {\nif b {\nx = 1\n} else {\nx = 2\n}\n} else {\nif b {\nx = 3\n}\n}\nout x\nback x")
        for args, answer, steps in (([1, 1], 1, 5), ([1, 0], 2, 5), ([0, 1], 3, 5), ([0, 0], 0, 4)):
            self.walked(program, args, "back", [answer], answer, steps)


class Whiles(Case):
    def test_no_round(self):
        self.walked(COUNT_DOWN, [0], "back", [], 0, 3)

    def test_one_round(self):
        self.walked(COUNT_DOWN, [1], "back", [1], 0, 6)

    def test_many_rounds(self):
        self.walked(COUNT_DOWN, [4], "back", [4, 3, 2, 1], 0, 15)
        self.walked(COUNT_DOWN, [90], "back", list(range(90, 0, -1)), 0, 273)

    def test_without_a_body(self):
        program = read("in a\nwhile a {\n}\nback a")
        self.walked(program, [0], "back", [], 0, 2)
        for most in (0, 1, 2, 3000):
            self.assertEqual(walk(program, [1], most), ("tired", [], None, most))

    def test_one_within_another(self):
        self.walked(TIMES, [3, 4], "back", [4, 8, 12], 12, 1 + 3 * (5 + 4 * 3) + 2)
        self.walked(TIMES, [2, 0], "back", [0, 0], 0, 1 + 2 * 5 + 2)
        self.walked(TIMES, [0, 4], "back", [], 0, 3)

    def test_an_if_within_a_while(self):
        program = read("in n\none = 1\nwhile n {\nb = n & one\nif b {\nout n\n} else {\ns = s + n\n}\nn = n - one\n}\nback s")
        self.walked(program, [5], "back", [5, 3, 1], 6, 1 + 5 * 5 + 2)

    def test_a_while_within_an_if(self):
        program = read("in a n\none = 1\nif a {\nwhile n {\nn = n - one\nout n\n}\n} else {\nout n\n}\nback n")
        self.walked(program, [1, 2], "back", [1, 0], 0, 1 + 1 + 2 * 3 + 1 + 1)
        self.walked(program, [0, 2], "back", [2], 2, 4)

    def test_whiles_one_behind_another(self):
        program = read("in a b\nwhile a {\nout a\na = 0\n}\nwhile b {\nout b\nb = 0\n}\nback a")
        self.walked(program, [3, 4], "back", [3, 4], 0, 9)
        self.walked(program, [0, 4], "back", [4], 0, 6)

    def test_one_that_never_ends(self):
        for most in (0, 1, 2, 3, 4, 5, 399, 400, 401, 3000):
            self.assertEqual(walk(FOR_EVER, [7], most), ("tired", [7] * (most // 2), None, most))
        self.walked(FOR_EVER, [0], "back", [], 0, 2)


class Bounds(Case):
    def test_nought(self):
        for program, args in ((((), (), "x"), []), (COUNT_DOWN, [3]), (FOR_EVER, [1])):
            told = walk(program, args, 0)
            self.assertEqual(told, ("tired", [], None, 0))
            self.assertTrue(kinds_are_right(told))

    def test_just_enough_and_one_less(self):
        self.assertEqual(walk(COUNT_DOWN, [2], 9), ("back", [2, 1], 0, 9))
        self.assertEqual(walk(COUNT_DOWN, [2], 10), ("back", [2, 1], 0, 9))
        self.assertEqual(walk(COUNT_DOWN, [2], 8), ("tired", [2, 1], None, 8))

    def test_what_was_sent_by_then(self):
        sent = [len(walk(COUNT_DOWN, [2], most)[1]) for most in range(10)]
        self.assertEqual(sent, [0, 0, 0, 1, 1, 1, 2, 2, 2, 2])
        self.assertEqual(walk(COUNT_DOWN, [2], 3), ("tired", [2], None, 3))
        self.assertEqual(walk(COUNT_DOWN, [2], 2), ("tired", [], None, 2))

    def test_left_out_it_is_400(self):
        out = ("out", "x")
        for many in (398, 399):
            self.assertEqual(walk(((), (out,) * many, "x"), []), ("back", [0] * many, 0, many + 1))
        self.assertEqual(walk(((), (out,) * 400, "x"), []), ("tired", [0] * 400, None, 400))
        self.assertEqual(walk(FOR_EVER, [7]), ("tired", [7] * 200, None, 400))
        self.assertEqual(walk(COUNT_DOWN, [132]), ("back", list(range(132, 0, -1)), 0, 399))
        self.assertEqual(walk(COUNT_DOWN, [133]), ("tired", list(range(133, 0, -1)), None, 400))

    def test_by_its_name(self):
        self.assertEqual(walk(program=COUNT_DOWN, args=[2], most=3), ("tired", [2], None, 3))

    def test_3000_and_somewhat_more(self):
        for most in (2999, 3000, 3001, 5000):
            self.assertEqual(walk(FOR_EVER, [7], most), ("tired", [7] * (most // 2), None, most))


class ParamsAndNames(Case):
    def test_no_params(self):
        self.walked(read("in\nx = 3\nout x\nback y"), [], "back", [3], 0, 3)

    def test_no_other_names_than_params(self):
        self.walked(read("in a b\na = a + b\nout a\nback b"), [3, 4], "back", [7], 4, 3)

    def test_eight_params_and_somewhat_more(self):
        for many in (8, 9):
            names = tuple("hgfedcbai"[:many])
            args = [10 * k + 1 for k in range(many)]
            body = tuple([("out", name) for name in names])
            self.walked((names, body, "a"), args, "back", args, 71, many + 1)

    def test_args_go_to_params_in_order(self):
        self.walked((("b", "a"), (("out", "a"), ("out", "b")), "b"), [1, 2], "back", [2, 1], 1, 3)

    def test_args_at_their_edges(self):
        for number in (0, 1, LAST):
            self.walked((("a",), (("out", "a"),), "a"), [number], "back", [number], number, 2)

    def test_120_statements_and_somewhat_more(self):
        for many in (119, 120, 121, 150):
            body = (("op", "a", "+", "a", "b"),) * (many - 1) + (("out", "a"),)
            self.walked((("a", "b"), body, "a"), [0, 2], "back", [2 * many - 2], 2 * many - 2, many + 1)

    def test_twelve_within_one_another_and_somewhat_more(self):
        for depth in (12, 13, 150):
            whiles = (("num", "a", 0), ("out", "b"))
            yes = no = (("out", "b"),)
            for level in range(depth):
                whiles = (("while", "a", whiles),)
                yes = (("if", "b", yes, (("out", "a"),)),)
                no = (("if", "c", (("out", "a"),), no),)
            params = ("a", "b", "c")
            self.walked((params, whiles, "a"), [1, 2, 0], "back", [2], 0, 2 * depth + 3)
            self.walked((params, yes, "a"), [1, 2, 0], "back", [2], 1, depth + 2)
            self.walked((params, no, "a"), [1, 2, 0], "back", [2], 1, depth + 2)


class NothingIsChanged(Case):
    def test_what_is_handed_in(self):
        for program, args in ((COUNT_DOWN, [3]), (TIMES, [2, 2]), (CHOOSE, [0]), (((), (("num", "x", 1),), "x"), [])):
            kept = copy.deepcopy((program, args))
            walk(program, args)
            walk(program, args, 3)
            self.assertEqual((program, args), kept)

    def test_sent_is_a_new_list_each_time(self):
        for most in (0, 4, 400):
            first = walk(COUNT_DOWN, [2], most)
            kept = copy.deepcopy(first)
            first[1].append(99)
            first[1][0] = 98
            second = walk(COUNT_DOWN, [2], most)
            self.assertEqual(second, kept)
            self.assertIsNot(first[1], second[1])

    def test_sent_is_not_what_was_handed_in(self):
        args = [5]
        told = walk((("a",), (("out", "a"),), "a"), args)
        told[1].append(6)
        self.assertEqual(args, [5])
        args[0] = 7
        args.append(8)
        self.assertEqual(told, ("back", [5, 6], 5, 2))

    def test_nothing_is_kept_between_calls(self):
        program = read("in\nx = x + x\ny = y | x\nout y\nx = 9\ny = 9\nback y")
        for k in range(3):
            self.assertEqual(walk(program, []), ("back", [0], 9, 6))
            self.assertEqual(walk(COUNT_DOWN, [9], 5), ("tired", [9], None, 5))


def made_block(chance, depth, most):
    return tuple(made_statement(chance, depth) for k in range(chance.randint(0, most)))


def made_statement(chance, depth):
    one, two, three = (chance.choice("abcde") for k in range(3))
    word = chance.choice(("num", "copy", "op", "op", "op", "out", "out", "if", "while"))
    if word == "num":
        return ("num", one, chance.choice((0, 0, 1, 1, 2, LAST, chance.randint(0, LAST))))
    if word == "copy":
        return ("copy", one, two)
    if word == "op":
        return ("op", one, chance.choice(SIGNS), two, three)
    if word == "out" or depth == 4:
        return ("out", one)
    if word == "while":
        return ("while", one, made_block(chance, depth + 1, 5))
    return ("if", one, made_block(chance, depth + 1, 3), made_block(chance, depth + 1, 3))


class MadePrograms(Case):
    def test_held_against_a_second_reckoning(self):
        chance = random.Random(7)
        words = []
        for k in range(1500):
            params = tuple(chance.sample("abcde", chance.randint(0, 5)))
            program = (params, made_block(chance, 0, 9), chance.choice("abcdef"))
            args = [chance.choice((0, 1, 2, 3, LAST, chance.randint(0, LAST))) for name in params]
            for most in (300, chance.randint(0, 40), chance.randint(0, 10)):
                told = walk(program, args, most)
                words.append(told[0])
                self.assertEqual(told, expected_run(program, args, most), (program, args, most))
                self.assertTrue(kinds_are_right(told))
        self.assertGreater(words.count("back"), 500)
        self.assertGreater(words.count("tired"), 500)


if __name__ == "__main__":
    unittest.main()
