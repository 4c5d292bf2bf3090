import string
import unittest

from turnguard.programs import is_name, names_of, statements

RESERVED = ("in", "out", "back", "if", "else", "while")


def nested(depth, word, inner=()):
    """A body of ifs or whiles within one another, the innermost with what is given."""
    body = inner
    for level in range(depth):
        body = (("while", "a", body),) if word == "while" else (("if", "a", (), body),)
    return body


class Names(unittest.TestCase):
    def test_every_letter_alone(self):
        for letter in string.ascii_lowercase:
            self.assertIs(is_name(letter), True, letter)

    def test_one_to_eight_letters(self):
        for length in range(1, 9):
            self.assertIs(is_name("z" * length), True, length)
        self.assertIs(is_name("abcdefgh"), True)

    def test_too_short_or_too_long(self):
        for text in ("", "abcdefghi", "z" * 9, "z" * 80):
            self.assertIs(is_name(text), False, text)

    def test_the_six_words(self):
        for word in RESERVED:
            self.assertIs(is_name(word), False, word)

    def test_texts_near_the_six_words(self):
        for word in RESERVED:
            for text in (word + "s", "x" + word, word[:-1], word[1:], word + word[:1]):
                self.assertIs(is_name(text), True, text)
        for text in ("num", "copy", "op", "mark", "look", "fork", "inout"):
            self.assertIs(is_name(text), True, text)

    def test_other_signs(self):
        for code in range(0, 256):
            sign = chr(code)
            if sign not in string.ascii_lowercase:
                for text in (sign, sign + "a", "a" + sign, "a" + sign + "b"):
                    self.assertIs(is_name(text), False, repr(text))

    def test_letters_of_elsewhere(self):
        for text in ("\u00e9", "\u03b1", "\uff41", "a\u0301", "\u00df", "\u0131"):
            self.assertIs(is_name(text), False, ascii(text))


class NamesOfPrograms(unittest.TestCase):
    def test_params_first_and_in_their_order(self):
        self.assertEqual(names_of((("c", "a", "b"), (), "a")), ["c", "a", "b"])
        self.assertEqual(names_of((("c", "a"), (("copy", "a", "c"),), "b")), ["c", "a", "b"])

    def test_nothing_but_the_answer(self):
        self.assertEqual(names_of(((), (), "x")), ["x"])

    def test_each_kind_as_written(self):
        cases = [
            (("num", "p", 5), ["p"]),
            (("copy", "p", "a"), ["p", "a"]),
            (("op", "p", "+", "b", "a"), ["p", "b", "a"]),
            (("out", "p"), ["p"]),
            (("if", "p", (), ()), ["p"]),
            (("while", "p", ()), ["p"]),
        ]
        for statement, names in cases:
            self.assertEqual(names_of(((), (statement,), "z")), names + ["z"], statement)

    def test_an_if_is_its_name_then_yes_then_no(self):
        body = (("if", "c", (("out", "b"),), (("out", "a"),)), ("out", "d"))
        self.assertEqual(names_of(((), body, "e")), ["c", "b", "a", "d", "e"])

    def test_a_while_is_its_name_then_its_body(self):
        body = (("while", "c", (("out", "b"), ("while", "f", (("out", "a"),)), ("out", "g"))), ("out", "d"))
        self.assertEqual(names_of(((), body, "e")), ["c", "b", "f", "a", "g", "d", "e"])

    def test_each_once_where_it_first_stands(self):
        body = (("op", "x", "*", "x", "x"), ("copy", "y", "x"), ("out", "y"), ("copy", "p", "y"))
        self.assertEqual(names_of((("p",), body, "y")), ["p", "x", "y"])

    def test_the_answer_keeps_an_earlier_standing(self):
        self.assertEqual(names_of(((), (("out", "x"), ("out", "y")), "x")), ["x", "y"])

    def test_a_sign_and_a_value_are_no_names(self):
        body = (("op", "x", "=", "y", "z"), ("num", "x", 0))
        self.assertEqual(names_of(((), body, "x")), ["x", "y", "z"])

    def test_eight_names_and_somewhat_more(self):
        for many in (8, 9, 12):
            names = list(string.ascii_lowercase[:many])
            body = tuple([("out", name) for name in names])
            self.assertEqual(names_of(((), body, "a")), names)
            self.assertEqual(names_of((tuple(names), (), "a")), names)

    def test_a_new_list_each_time(self):
        program = (("a",), (("out", "b"),), "c")
        first = names_of(program)
        first.append("other")
        first[0] = "changed"
        second = names_of(program)
        self.assertIs(type(second), list)
        self.assertEqual(second, ["a", "b", "c"])
        self.assertEqual(program, (("a",), (("out", "b"),), "c"))

    def test_nothing_is_kept_from_another_program(self):
        names_of((("q",), (("out", "r"),), "s"))
        self.assertEqual(names_of(((), (), "x")), ["x"])

    def test_deep_within_one_another(self):
        for depth in (12, 13, 40):
            for word in ("if", "while"):
                program = ((), nested(depth, word, (("out", "b"),)), "c")
                self.assertEqual(names_of(program), ["a", "b", "c"])


class HowMany(unittest.TestCase):
    def test_none(self):
        self.assertEqual(statements((("a",), (), "a")), 0)

    def test_each_kind_is_one(self):
        body = (("num", "x", 1), ("copy", "x", "y"), ("op", "x", "+", "y", "z"), ("out", "x"),
                ("if", "x", (), ()), ("while", "x", ()))
        for k in range(len(body) + 1):
            self.assertEqual(statements(((), body[:k], "x")), k)

    def test_those_within_others(self):
        out = ("out", "x")
        self.assertEqual(statements(((), (("if", "x", (out, out), (out,)),), "x")), 4)
        self.assertEqual(statements(((), (("while", "x", (out, ("while", "x", (out,)))), out), "x")), 5)

    def test_twelve_within_one_another_and_somewhat_more(self):
        for depth in (12, 13, 40):
            for word in ("if", "while"):
                self.assertEqual(statements(((), nested(depth, word), "x")), depth)

    def test_a_hundred_and_twenty_and_somewhat_more(self):
        out = ("out", "x")
        for many in (119, 120, 121, 150):
            self.assertEqual(statements(((), (out,) * many, "x")), many)
            self.assertEqual(statements(((), (("while", "x", (out,) * (many - 1)),), "x")), many)

    def test_a_whole_number_that_is_no_truth(self):
        self.assertIs(type(statements(((), (("out", "x"),), "x"))), int)
        self.assertIs(type(statements(((), (), "x"))), int)


if __name__ == "__main__":
    unittest.main()
