import random
import unittest

from turnguard.errors import NoProgram
from turnguard.programs import names_of, statements
from turnguard.texts import read, write

LAST = 2 ** 48 - 1
SIGNS = "+ - * / < = & | ^".split(" ")
RESERVED = ("in", "out", "back", "if", "else", "while")

PAIRS = [
    ("in\nback x", ((), (), "x")),
    ("in a\nback a", (("a",), (), "a")),
    ("in b a\nback c", (("b", "a"), (), "c")),
    ("in\nx = 5\nback x", ((), (("num", "x", 5),), "x")),
    ("in\nx = y\nback x", ((), (("copy", "x", "y"),), "x")),
    ("in\nx = x\nback x", ((), (("copy", "x", "x"),), "x")),
    ("in\nx = y + z\nback x", ((), (("op", "x", "+", "y", "z"),), "x")),
    ("in\nout x\nback x", ((), (("out", "x"),), "x")),
    ("in\nif a {\n}\nback x", ((), (("if", "a", (), ()),), "x")),
    ("in\nif a {\nout b\n}\nback x", ((), (("if", "a", (("out", "b"),), ()),), "x")),
    ("in\nif a {\n} else {\nout b\n}\nback x", ((), (("if", "a", (), (("out", "b"),)),), "x")),
    ("in\nif a {\nout c\n} else {\nout b\nout d\n}\nback x",
     ((), (("if", "a", (("out", "c"),), (("out", "b"), ("out", "d"))),), "x")),
    ("in\nwhile a {\n}\nback x", ((), (("while", "a", ()),), "x")),
    ("in\nwhile a {\nout a\na = 0\n}\nout b\nback x",
     ((), (("while", "a", (("out", "a"), ("num", "a", 0))), ("out", "b")), "x")),
    ("in\nif a {\n} else {\nif b {\n}\n}\nback x",
     ((), (("if", "a", (), (("if", "b", (), ()),)),), "x")),
    ("in\nif a {\nwhile b {\n}\n} else {\nwhile c {\n}\n}\nback x",
     ((), (("if", "a", (("while", "b", ()),), (("while", "c", ()),)),), "x")),
    ("in n\none = 1\nsum = 0\nwhile n {\nsum = sum + n\nn = n - one\n}\nout sum\nback sum",
     (("n",), (("num", "one", 1), ("num", "sum", 0),
               ("while", "n", (("op", "sum", "+", "sum", "n"), ("op", "n", "-", "n", "one"))),
               ("out", "sum")), "sum")),
]


def kinds_are_right(thing):
    """Whether a program holds but tuples, texts and whole numbers that are no truths."""
    if type(thing) is tuple:
        return all(kinds_are_right(part) for part in thing)
    return type(thing) in (str, int)


class Case(unittest.TestCase):
    def both(self, text, program):
        got = read(text)
        self.assertEqual(got, program)
        self.assertTrue(kinds_are_right(got))
        self.assertEqual(write(program), text)

    def refused(self, text, row):
        with self.assertRaises(NoProgram, msg=repr(text)) as caught:
            read(text)
        self.assertEqual(caught.exception.row, row, repr(text))
        self.assertIs(type(caught.exception.row), int)

    def bad_row(self, row):
        """A row that stands nowhere in the body: refused at each place, other bad rows behind it or not."""
        for ahead in (["in"], ["in a", "x = 1"], ["in", "while x {"], ["in", "if x {", "} else {", "out x"]):
            for behind in ([], ["back x"], ["}", "back x"], ["?", "in"]):
                self.refused("\n".join(ahead + [row] + behind), len(ahead))


class ReadAndWritten(Case):
    def test_ordinary_texts(self):
        for text, program in PAIRS:
            with self.subTest(text=text):
                self.both(text, program)

    def test_every_sign(self):
        for sign in SIGNS:
            self.both(f"in\nx = y {sign} z\nback x", ((), (("op", "x", sign, "y", "z"),), "x"))

    def test_values_at_their_edges(self):
        for number in (0, 1, 9, 10, 100, 2 ** 47, 10 ** 14, LAST - 1, LAST):
            self.both(f"in\nx = {number}\nback x", ((), (("num", "x", number),), "x"))

    def test_names_of_one_to_eight_letters(self):
        for length in range(1, 9):
            n = "z" * length
            self.both(f"in {n}\n{n} = 0\n{n} = {n}\n{n} = {n} - {n}\nout {n}\nif {n} {{\n}}\nwhile {n} {{\n}}\nback {n}",
                      ((n,), (("num", n, 0), ("copy", n, n), ("op", n, "-", n, n), ("out", n),
                              ("if", n, (), ()), ("while", n, ())), n))

    def test_twelve_within_one_another_and_somewhat_more(self):
        for depth in (12, 13, 20, 140):
            program = (("out", "x"),)
            for level in range(depth):
                program = ((("while", "x", program), ("if", "x", program, ()), ("if", "x", (), program))[level % 3],)
            heads = [["while x {"], ["if x {"], ["if x {", "} else {"]]
            rows = ["in"]
            for level in reversed(range(depth)):
                rows += heads[level % 3]
            rows += ["out x"] + ["}"] * depth + ["back x"]
            self.assertTrue("\n".join(rows) == write(((), program, "x")))
            self.assertTrue(read("\n".join(rows)) == ((), program, "x"))

    def test_eight_names_and_somewhat_more(self):
        for many in (8, 9, 12):
            params = tuple("abcdefghijkl"[:many])
            self.both("in " + " ".join(params) + "\nback a", (params, (), "a"))

    def test_a_hundred_and_twenty_statements_and_somewhat_more(self):
        for many in (120, 121, 200):
            self.both("in\n" + "out x\n" * many + "back x", ((), (("out", "x"),) * many, "x"))

    def test_made_programs_there_and_back(self):
        chance = random.Random(48)
        for k in range(400):
            program = made_program(chance)
            text = write(program)
            self.assertEqual(read(text), program)
            self.assertEqual(write(read(text)), text)

    def test_nothing_is_kept_between_calls(self):
        for text, program in PAIRS:
            self.refused("in\nif a {\n} else {\nout q", 4)
            self.assertEqual(read(text), program)
            self.assertEqual(read(text), program)
            self.assertEqual(write(program), text)

    def test_lists_of_names_are_the_askers_own(self):
        program = read("in a\nout b\nback c")
        names_of(program).clear()
        self.assertEqual(write(program), "in a\nout b\nback c")
        self.assertEqual(names_of(program), ["a", "b", "c"])
        self.assertEqual(statements(program), 1)


def made_block(chance, depth, most):
    return tuple(made_statement(chance, depth) for k in range(chance.randint(0, most)))


def made_statement(chance, depth):
    one, two, three = (chance.choice(("a", "b", "xyz", "inn", "elsewher")) for k in range(3))
    kind = chance.choice(("num", "copy", "op", "out", "if", "while"))
    if kind == "num":
        return ("num", one, chance.choice((0, 1, 7, LAST, chance.randint(0, LAST))))
    if kind == "copy":
        return ("copy", one, two)
    if kind == "op":
        return ("op", one, chance.choice(SIGNS), two, three)
    if kind == "out" or depth == 12:
        return ("out", one)
    if kind == "while":
        return ("while", one, made_block(chance, depth + 1, 3))
    return ("if", one, made_block(chance, depth + 1, 3), made_block(chance, depth + 1, 2))


def made_program(chance):
    params = tuple(chance.sample(("a", "b", "xyz", "p"), chance.randint(0, 4)))
    return (params, made_block(chance, 0, 6), chance.choice(("a", "b", "q")))


class NoneOfThese(Case):
    def test_blanks(self):
        for row in ("", " ", " x = 1", "x = 1 ", "x  = 1", "x =  1", "x=1", "x =1", "out  x", "out x ", " out x",
                    "if x  {", "if x { ", " }", "} ", "}  else {", "}else{", "} else{", "x\t= 1", "x = 1\r"):
            self.bad_row(row)

    def test_broken_forms(self):
        for row in ("x", "=", "x =", "= 1", "x = =", "x = 1 1", "x = a b", "x = a +", "x = a + b c", "x = a + b + c",
                    "x = + a", "x == 1", "x + 1", "out", "out =", "out x y", "out 1", "if", "if x", "if {", "if x }",
                    "if x y {", "if 1 {", "if x { }", "if x {}", "if x{", "while", "while x", "while {", "while 1 {",
                    "while x y {", "while x }", "else", "else {", "} else", "} else if x {", "} }", "{", "{ }", "{}",
                    "x = ( a )", "# a", "x = 1 ;", "num x 1", "?"):
            self.bad_row(row)

    def test_signs_that_are_none(self):
        for sign in ("+-", "<=", "==", ">", "!", "~", "**", "//", "<<", "&&", "x", "1", "", "{", "+ -", "%"):
            self.bad_row(f"x = a {sign} b")

    def test_an_op_has_no_values(self):
        for row in ("x = 1 + a", "x = a + 1", "x = 1 + 1", "x = - 1", "x = a - -1"):
            self.bad_row(row)

    def test_numbers_that_are_no_values(self):
        for word in (str(LAST + 1), str(10 ** 15), "9" * 15, "9" * 60, "1" * 5000, "00", "01", "007", "0" * 15, "-1",
                     "-0", "+1", "1.0", "1e3", "1_0", "0x1", "1a", "a1", "\u00b2", "\u0661", "1\u0661"):
            self.bad_row(f"x = {word}")

    def test_words_that_are_no_names(self):
        for word in RESERVED + ("abcdefghi", "A", "aB", "a1", "a_b", "a-b", "{", "}", "\u00e9", "1"):
            for row in (f"{word} = 1", f"{word} = a", f"{word} = a + b", f"x = {word} + b", f"x = a + {word}",
                        f"out {word}", f"if {word} {{", f"while {word} {{"):
                self.bad_row(row)
            if word != "1":
                self.bad_row(f"x = {word}")

    def test_backs_that_are_none(self):
        for row in ("back", "back ", "back 1", "back x y", "back  x", "back = 1", "back back", "back abcdefghi", "back X"):
            self.bad_row(row)


class FirstRow(Case):
    def test_another_row_first(self):
        for row in ("", " ", "x = 1", "out x", "if x {", "while x {", "}", "} else {", "back x", "?"):
            for behind in ("", "\nback x", "\nin\nback x", "\n?"):
                self.refused(row + behind, 0)

    def test_no_such_row(self):
        for row in ("in ", " in", "in  a", "in a ", "in a  b", "In", "inn", "in 1", "in A", "in a, b", "in =", "in {",
                    "in abcdefghi", "in a abcdefghi b") + tuple(f"in a {word}" for word in RESERVED):
            self.refused(row + "\nback a", 0)
            self.refused(row, 0)

    def test_two_params_alike(self):
        for row in ("in a a", "in a b a", "in a b b", "in b c d e f g h b"):
            self.refused(row + "\nback a", 0)
            self.refused(row + "\n?", 0)
            self.refused(row, 0)

    def test_in_anywhere_but_first(self):
        for row in ("in", "in a", "in x y"):
            self.bad_row(row)
        self.refused("in\nback x\nin", 2)


class Braces(Case):
    def test_a_close_where_nothing_is_open(self):
        self.refused("in\n}\nback x", 1)
        self.refused("in\n}", 1)
        self.refused("in\nx = 1\n}\n?\nback x", 2)
        self.refused("in\nif a {\n}\n}\nback x", 3)
        self.refused("in\nwhile a {\n}\n}\nback x", 3)
        self.refused("in\nif a {\n} else {\nout b\n}\n}\nback x", 5)

    def test_an_else_where_no_if_is_open(self):
        self.refused("in\n} else {\nback x", 1)
        self.refused("in\nout a\n} else {\nout a\n}\nback x", 2)
        self.refused("in\nif a {\n}\n} else {\nout a\n}\nback x", 3)

    def test_an_else_of_a_while(self):
        self.refused("in\nwhile a {\n} else {\nout b\n}\nback x", 2)
        self.refused("in\nwhile a {\nout b\n} else {\nout b\n}\nback x", 3)
        self.refused("in\nif a {\nwhile b {\n} else {\nout b\n}\n}\nback x", 3)

    def test_a_second_else(self):
        self.refused("in\nif a {\n} else {\n} else {\nout b\n}\nback x", 3)
        self.refused("in\nif a {\n} else {\nout b\n} else {\nout b\n}\nback x", 4)
        self.refused("in\nif a {\n} else {\nif b {\n} else {\nout c\n}\n} else {\nout b\n}\nback x", 7)

    def test_an_inner_if_has_an_else_of_its_own(self):
        self.both("in\nif a {\n} else {\nif b {\n} else {\nout c\n}\n}\nback x",
                  ((), (("if", "a", (), (("if", "b", (), (("out", "c"),)),)),), "x"))
        self.both("in\nwhile a {\nif b {\n} else {\nout c\n}\n}\nback x",
                  ((), (("while", "a", (("if", "b", (), (("out", "c"),)),)),), "x"))

    def test_a_close_straight_behind_an_else(self):
        self.refused("in\nif a {\n} else {\n}\nback x", 3)
        self.refused("in\nif a {\nout b\n} else {\n}\nback x", 4)
        self.refused("in\nwhile c {\nif a {\n} else {\n}\n}\nback x", 4)


class Backs(Case):
    def test_within_braces(self):
        self.refused("in\nif a {\nback x\n}\nback x", 2)
        self.refused("in\nwhile a {\nout b\nback x\n}", 3)
        self.refused("in\nif a {\n} else {\nback x\n}\nback x", 3)
        self.refused("in\nwhile a {\nback x", 2)
        self.refused("in\nwhile a {\nback x\n?\n", 2)

    def test_rows_behind(self):
        for row in ("", " ", "x = 1", "out x", "back x", "back y", "in", "}", "} else {", "if x {", "?"):
            self.refused("in\nback x\n" + row, 2)
            self.refused("in\nout a\nback x\n" + row + "\nback x", 3)
            self.refused("in\nout a\nback x\n" + row + "\n?\n", 3)

    def test_a_line_feed_at_the_end_is_a_row_more(self):
        self.refused("in\nback x\n", 2)
        self.refused("\nin\nback x", 0)
        self.refused("in\n\nback x", 1)
        self.refused("in\r\nback x", 0)


class RowsLack(Case):
    def test_the_number_of_all_rows(self):
        self.refused("in", 1)
        self.refused("in a b", 1)
        self.refused("in\nx = 1", 2)
        self.refused("in\nif a {", 2)
        self.refused("in\nif a {\n}", 3)
        self.refused("in\nif a {\n} else {", 3)
        self.refused("in\nif a {\n} else {\nout x", 4)
        self.refused("in\nwhile a {\nwhile b {\n}", 4)
        self.refused("in" + "\nout x" * 120, 121)

    def test_the_text_without_a_sign_has_one_row(self):
        self.refused("", 0)
        self.refused("\n", 0)

    def test_a_bad_row_comes_ahead_of_rows_that_lack(self):
        self.refused("in\nif a {\n?", 2)
        self.refused("in\n", 1)
        self.refused("in\nx = 1\n", 2)


class MoreThanOneBadRow(Case):
    def test_the_first_one_is_told(self):
        self.refused("in a a\n}\nback", 0)
        self.refused("in\n?\n}\nin", 1)
        self.refused("in\nif a {\nin\nback x\n}\n}", 2)
        self.refused("in\nif a {\n} else {\n}\n} else {\nback x\nback x", 3)
        self.refused("in\nwhile a {\n}\nback x\n?\n}\n", 4)
        self.refused("in\nx = 1\nx = 01\nback 1", 2)


if __name__ == "__main__":
    unittest.main()
