import copy
import itertools
import random
import unittest

from turnguard.codes import fits, is_plain, run
from turnguard.flat import flat
from turnguard.programs import names_of, statements
from turnguard.texts import read, write
from turnguard.walk import walk

LAST = 2 ** 48 - 1
SIGNS = "+ - * / < = & | ^".split(" ")

COUNT_DOWN = read("in n\none = 1\nwhile n {\nout n\nn = n - one\n}\nback n")
TIMES = read("in a b\none = 1\nwhile a {\nm = b\nwhile m {\ns = s + one\nm = m - one\n}\nout s\na = a - one\n}\nback s")
CHOOSE = read("in a\nif a {\nx = 5\nout x\n} else {\nx = 7\n}\nout a\nback x")


def second_flat(program):
    """Plain code, its order by the rows of the text, where they go on to by recursion over the blocks."""
    box = {name: k for k, name in enumerate(names_of(program))}
    texts = [row.split(" ") for row in write(program).split("\n")[1:] if not row.startswith("}")]
    onward = {}

    def number(body, place):
        """Each statement with its place, and the place behind them all."""
        numbered = []
        for statement in body:
            inner = []
            own = place
            place += 1
            for part in statement:
                if isinstance(part, tuple):
                    held, place = number(part, place)
                    inner.append(held)
            numbered.append((own, statement[0], inner))
        return numbered, place

    def link(numbered, behind):
        """Tell where each goes on to; give the place of what is done first."""
        for own, word, inner in reversed(numbered):
            if word == "while":
                onward[own] = (link(inner[0], own), behind)
            elif word == "if":
                onward[own] = (link(inner[0], behind), link(inner[1], behind))
            else:
                onward[own] = (behind,)
            behind = own
        return behind

    numbered, end = number(program[1], 0)
    link(numbered, end)
    onward[end] = ()
    return [row_by_words(words, box) + onward[place] for place, words in enumerate(texts)]


def row_by_words(words, box):
    """A row without its places, by the words of its text."""
    if words[0] in ("if", "while"):
        return ("fork", box[words[1]])
    if words[0] in ("out", "back") and len(words) == 2:
        return (words[0], box[words[1]])
    if len(words) == 5:
        return ("op", 2, words[3], box[words[0]], box[words[2]], box[words[4]])
    if words[2].isdigit():
        return ("num", 2, box[words[0]], int(words[2]))
    return ("copy", 2, box[words[0]], box[words[2]])


class Case(unittest.TestCase):
    def flattened(self, text, code):
        """The plain code of a text; its run is the walk, for some args and every bound that matters."""
        program = read(text)
        self.assertEqual(flat(program), code)
        self.right(program)

    def right(self, program, bounds=(0, 1, 2, 3, 4, 5, 6, 7, 8, 9, 10, 11, 12, 20, 100)):
        code = flat(program)
        self.assertIs(type(code), list)
        self.assertTrue(all(type(row) is tuple for row in code))
        self.assertTrue(fits(code) and is_plain(code), code)
        self.assertEqual(code, second_flat(program))
        self.assertEqual(len(code), statements(program) + 1)
        for args in ([0] * len(program[0]), [1] * len(program[0]), list(range(2, 2 + len(program[0])))):
            for most in bounds:
                self.assertEqual(run(code, args, most), walk(program, args, most), (program, args, most))


class OneStatement(Case):
    def test_no_statement(self):
        self.flattened("in\nback x", [("back", 0)])
        self.flattened("in a\nback a", [("back", 0)])
        self.flattened("in a b\nback b", [("back", 1)])
        self.flattened("in a b\nback c", [("back", 2)])

    def test_num(self):
        for number in (0, 1, 2, LAST):
            self.flattened(f"in\nx = {number}\nback x", [("num", 2, 0, number, 1), ("back", 0)])
        self.flattened("in a\nx = 5\nback a", [("num", 2, 1, 5, 1), ("back", 0)])

    def test_copy(self):
        self.flattened("in a\nx = a\nback x", [("copy", 2, 1, 0, 1), ("back", 1)])
        self.flattened("in\nx = a\nback x", [("copy", 2, 0, 1, 1), ("back", 0)])
        self.flattened("in a\na = a\nback a", [("copy", 2, 0, 0, 1), ("back", 0)])

    def test_op(self):
        for sign in SIGNS:
            self.flattened(f"in a b\nx = a {sign} b\nback x", [("op", 2, sign, 2, 0, 1, 1), ("back", 2)])
            self.flattened(f"in a b\nx = b {sign} a\nback x", [("op", 2, sign, 2, 1, 0, 1), ("back", 2)])
            self.flattened(f"in a b\nb = a {sign} a\nback b", [("op", 2, sign, 1, 0, 0, 1), ("back", 1)])
        self.flattened("in\nx = y + z\nback y", [("op", 2, "+", 0, 1, 2, 1), ("back", 1)])

    def test_out(self):
        self.flattened("in a b\nout b\nback a", [("out", 1, 1), ("back", 0)])
        self.flattened("in\nout b\nback a", [("out", 0, 1), ("back", 1)])

    def test_rows_in_the_order_of_the_text(self):
        self.flattened("in a\nx = 5\nout x\ny = a\nout y\nx = x + y\nback x",
                       [("num", 2, 1, 5, 1), ("out", 1, 2), ("copy", 2, 2, 0, 3), ("out", 2, 4),
                        ("op", 2, "+", 1, 1, 2, 5), ("back", 1)])


class Boxes(Case):
    def test_params_then_others_as_they_first_stand(self):
        self.flattened("in b a\nc = a\nout d\na = e + b\nback f",
                       [("copy", 2, 2, 1, 1), ("out", 3, 2), ("op", 2, "+", 1, 4, 0, 3), ("back", 5)])

    def test_names_within_ifs_and_whiles(self):
        self.flattened("in\nif a {\nb = c\n} else {\nout d\n}\nwhile e {\nout f\n}\nout g\nback h",
                       [("fork", 0, 1, 2), ("copy", 2, 1, 2, 3), ("out", 3, 3), ("fork", 4, 4, 5), ("out", 5, 3),
                        ("out", 6, 6), ("back", 7)])

    def test_eight_names(self):
        self.flattened("in a b c d e f g h\nh = a + g\nback h", [("op", 2, "+", 7, 0, 6, 1), ("back", 7)])
        self.flattened("in h g f e d c b a\nback a", [("back", 7)])

    def test_more_names_than_boxes_are_not_refused(self):
        text = "in a b c d e f g h i\nj = i\nback j"
        self.assertEqual(flat(read(text)), [("copy", 2, 9, 8, 1), ("back", 9)])


class Ifs(Case):
    def test_both_blocks(self):
        self.flattened("in a\nif a {\nout a\n} else {\nx = 1\n}\nback x",
                       [("fork", 0, 1, 2), ("out", 0, 3), ("num", 2, 1, 1, 3), ("back", 1)])
        self.flattened("in a\nif a {\nout a\nout a\n} else {\nx = 1\nx = 2\nx = 3\n}\nout x\nback x",
                       [("fork", 0, 1, 3), ("out", 0, 2), ("out", 0, 6), ("num", 2, 1, 1, 4), ("num", 2, 1, 2, 5),
                        ("num", 2, 1, 3, 6), ("out", 1, 7), ("back", 1)])

    def test_no_statement_in_no(self):
        self.flattened("in a\nif a {\nout a\n}\nback a", [("fork", 0, 1, 2), ("out", 0, 2), ("back", 0)])
        self.flattened("in a\nif a {\nout a\n}\nout a\nback a",
                       [("fork", 0, 1, 2), ("out", 0, 2), ("out", 0, 3), ("back", 0)])

    def test_no_statement_in_yes(self):
        self.flattened("in a\nif a {\n} else {\nout a\n}\nback a", [("fork", 0, 2, 1), ("out", 0, 2), ("back", 0)])
        self.flattened("in a\nif a {\n} else {\nout a\n}\nout a\nback a",
                       [("fork", 0, 2, 1), ("out", 0, 2), ("out", 0, 3), ("back", 0)])

    def test_no_statement_in_either(self):
        self.flattened("in a\nif a {\n}\nback a", [("fork", 0, 1, 1), ("back", 0)])
        self.flattened("in a\nif a {\n}\nout a\nback a", [("fork", 0, 1, 1), ("out", 0, 2), ("back", 0)])
        self.flattened("in a\nif a {\n}\nif a {\n}\nback a", [("fork", 0, 1, 1), ("fork", 0, 2, 2), ("back", 0)])

    def test_last_of_a_block(self):
        self.flattened("in a\nif a {\nif a {\nout a\n}\n} else {\nout a\n}\nback a",
                       [("fork", 0, 1, 3), ("fork", 0, 2, 4), ("out", 0, 4), ("out", 0, 4), ("back", 0)])
        self.flattened("in a\nif a {\nout a\n} else {\nif a {\n} else {\nout a\n}\n}\nback a",
                       [("fork", 0, 1, 2), ("out", 0, 4), ("fork", 0, 4, 3), ("out", 0, 4), ("back", 0)])
        self.flattened("in a\nif a {\nif a {\n}\n} else {\nout a\n}\nout a\nback a",
                       [("fork", 0, 1, 2), ("fork", 0, 3, 3), ("out", 0, 3), ("out", 0, 4), ("back", 0)])

    def test_last_of_a_whiles_body(self):
        self.flattened("in a\nwhile a {\nif a {\nout a\n}\n}\nback a",
                       [("fork", 0, 1, 3), ("fork", 0, 2, 0), ("out", 0, 0), ("back", 0)])
        self.flattened("in a\nwhile a {\nif a {\n} else {\nout a\n}\n}\nback a",
                       [("fork", 0, 1, 3), ("fork", 0, 0, 2), ("out", 0, 0), ("back", 0)])
        self.flattened("in a\nout a\nwhile a {\nout a\nif a {\n}\n}\nback a",
                       [("out", 0, 1), ("fork", 0, 2, 4), ("out", 0, 3), ("fork", 0, 1, 1), ("back", 0)])


class Whiles(Case):
    def test_a_body(self):
        self.flattened("in a\nwhile a {\nout a\na = 0\n}\nback a",
                       [("fork", 0, 1, 3), ("out", 0, 2), ("num", 2, 0, 0, 0), ("back", 0)])
        self.assertEqual(flat(COUNT_DOWN), [("num", 2, 1, 1, 1), ("fork", 0, 2, 4), ("out", 0, 3),
                                            ("op", 2, "-", 0, 0, 1, 1), ("back", 0)])

    def test_no_statement_in_the_body(self):
        self.flattened("in a\nwhile a {\n}\nback a", [("fork", 0, 0, 1), ("back", 0)])
        self.flattened("in a\nout a\nwhile a {\n}\nout a\nback a",
                       [("out", 0, 1), ("fork", 0, 1, 2), ("out", 0, 3), ("back", 0)])

    def test_last_of_a_block(self):
        self.flattened("in a b\nif a {\nwhile b {\nb = a\n}\n} else {\nout b\n}\nback a",
                       [("fork", 0, 1, 3), ("fork", 1, 2, 4), ("copy", 2, 1, 0, 1), ("out", 1, 4), ("back", 0)])
        self.flattened("in a b\nif a {\nout b\n} else {\nwhile b {\n}\n}\nout a\nback a",
                       [("fork", 0, 1, 2), ("out", 1, 3), ("fork", 1, 2, 3), ("out", 0, 4), ("back", 0)])

    def test_last_of_a_whiles_body(self):
        self.flattened("in a b\nwhile a {\nwhile b {\nout b\n}\n}\nback a",
                       [("fork", 0, 1, 3), ("fork", 1, 2, 0), ("out", 1, 1), ("back", 0)])
        self.flattened("in a b\nwhile a {\nout a\nwhile b {\n}\n}\nout b\nback a",
                       [("fork", 0, 1, 3), ("out", 0, 2), ("fork", 1, 2, 0), ("out", 1, 4), ("back", 0)])

    def test_first_of_a_whiles_body(self):
        self.flattened("in a b\nwhile a {\nwhile b {\nout b\n}\nout a\n}\nback a",
                       [("fork", 0, 1, 4), ("fork", 1, 2, 3), ("out", 1, 1), ("out", 0, 0), ("back", 0)])

    def test_two_behind_one_another(self):
        self.flattened("in a b\nwhile a {\na = 0\n}\nwhile b {\nb = 0\n}\nback a",
                       [("fork", 0, 1, 2), ("num", 2, 0, 0, 0), ("fork", 1, 3, 4), ("num", 2, 1, 0, 2), ("back", 0)])


def nested(words, innermost):
    """A program of ifs and whiles within one another, each with a row ahead of and behind what it holds."""
    body = innermost
    for word in reversed(words):
        inner = (("out", "a"),) + body + (("op", "a", "-", "a", "b"),)
        if word == "while":
            body = (("while", "a", inner),)
        else:
            body = (("if", "a", inner, ()),) if word == "yes" else (("if", "a", (), inner),)
    return (("a", "b"), body, "a")


def straight_in(words):
    """The same, each with nothing but the one within."""
    body = ()
    for word in reversed(words):
        if word == "while":
            body = (("while", "a", body),)
        else:
            body = (("if", "a", body, ()),) if word == "yes" else (("if", "a", (), body),)
    return (("a",), body, "a")


class Deep(Case):
    def test_twelve_within_one_another(self):
        for words in (["while"] * 12, ["yes"] * 12, ["no"] * 12, ["while", "yes", "no"] * 4, ["no", "while"] * 6):
            program = nested(words, (("num", "b", 1),))
            self.assertEqual(statements(program), 37)
            self.right(program, range(0, 120, 7))
            self.right(straight_in(words), range(16))

    def test_twelve_ifs_and_where_each_goes_on_to(self):
        self.assertEqual(flat(straight_in(["yes"] * 12)),
                         [("fork", 0, k + 1, 12) for k in range(11)] + [("fork", 0, 12, 12), ("back", 0)])

    def test_twelve_whiles_and_where_each_goes_on_to(self):
        self.assertEqual(flat(straight_in(["while"] * 12)),
                         [("fork", 0, 1, 12)] + [("fork", 0, k + 1, k - 1) for k in range(1, 11)]
                         + [("fork", 0, 11, 10), ("back", 0)])

    def test_deeper_than_any_recursion(self):
        code = flat(straight_in(["yes"] * 1500))
        self.assertEqual(code, [("fork", 0, k + 1, 1500) for k in range(1499)]
                         + [("fork", 0, 1500, 1500), ("back", 0)])

    def test_120_statements_and_somewhat_more(self):
        for many in (119, 120, 121, 400):
            program = (("a",), (("op", "x", "+", "x", "a"),) * many, "x")
            self.assertEqual(flat(program), [("op", 2, "+", 1, 1, 0, k + 1) for k in range(many)] + [("back", 1)])
            self.right(program, (many - 1, many, many + 1, many + 2))

    def test_120_statements_of_many_ifs_and_whiles(self):
        loop = ("while", "a", (("op", "a", "-", "a", "b"), ("if", "b", (("out", "a"),), (("num", "c", 1),))))
        program = (("a", "b"), (loop,) * 24, "c")
        self.assertEqual(statements(program), 120)
        self.right(program, range(0, 200, 13))


class NothingIsChanged(Case):
    def test_what_is_handed_in(self):
        for program in (COUNT_DOWN, TIMES, CHOOSE, ((), (), "x")):
            kept = copy.deepcopy(program)
            flat(program)
            self.assertEqual(program, kept)

    def test_code_is_a_new_list_each_time(self):
        for program in (COUNT_DOWN, TIMES, CHOOSE, ((), (), "x")):
            first = flat(program)
            kept = list(first)
            first.append(("back", 7))
            first[0] = ("mark", 0)
            self.assertEqual(flat(program), kept)
            self.assertIsNot(flat(program), flat(program))

    def test_nothing_is_kept_between_calls(self):
        for k in range(3):
            self.assertEqual(flat(((), (("num", "b", 1),), "a")), [("num", 2, 0, 1, 1), ("back", 1)])
            self.assertEqual(flat((("a",), (("num", "b", 1),), "a")), [("num", 2, 1, 1, 1), ("back", 0)])


def bodies(many):
    """All bodies of so many statements, each an out, an if or a while."""
    if many == 0:
        return [()]
    found = []
    for own in range(1, many + 1):
        for statement, rest in itertools.product(of_size(own), bodies(many - own)):
            found.append((statement,) + rest)
    return found


def of_size(many):
    """All statements that are so many, those that they hold counted."""
    found = [("out", "a")] if many == 1 else []
    found.extend(("while", "b", body) for body in bodies(many - 1))
    for own in range(many):
        found.extend(("if", "c", yes, no) for yes in bodies(own) for no in bodies(many - 1 - own))
    return found


def made_block(chance, depth, most):
    return tuple(made_statement(chance, depth) for k in range(chance.randint(0, most)))


def made_statement(chance, depth):
    one, two, three = (chance.choice("abcde") for k in range(3))
    word = chance.choice(("num", "copy", "op", "op", "op", "out", "out", "if", "while"))
    if word == "num":
        return ("num", one, chance.choice((0, 0, 1, 1, 2, LAST, chance.randint(0, LAST))))
    if word == "copy":
        return ("copy", one, two)
    if word == "op":
        return ("op", one, chance.choice(SIGNS), two, three)
    if word == "out" or depth == 4:
        return ("out", one)
    if word == "while":
        return ("while", one, made_block(chance, depth + 1, 5))
    return ("if", one, made_block(chance, depth + 1, 3), made_block(chance, depth + 1, 3))


class AllSmallAndMade(Case):
    def test_all_small_shapes(self):
        for many in range(5):
            shapes = bodies(many)
            self.assertEqual(len(set(shapes)), len(shapes))
            for body in shapes:
                program = (("a", "b", "c"), body, "a")
                self.assertEqual(flat(program), second_flat(program), program)

    def test_made_programs_run_as_they_are_walked(self):
        chance = random.Random(12)
        words = []
        for k in range(1500):
            params = tuple(chance.sample("abcde", chance.randint(0, 5)))
            program = (params, made_block(chance, 0, 9), chance.choice("abcdef"))
            code = flat(program)
            self.assertTrue(fits(code) and is_plain(code))
            self.assertEqual(code, second_flat(program))
            args = [chance.choice((0, 1, 2, 3, LAST, chance.randint(0, LAST))) for name in params]
            for most in (400, chance.randint(0, 40), chance.randint(0, 10)):
                told = run(code, args, most)
                words.append(told[0])
                self.assertEqual(told, walk(program, args, most), (program, args, most))
        self.assertGreater(words.count("back"), 500)
        self.assertGreater(words.count("tired"), 500)


if __name__ == "__main__":
    unittest.main()
