import copy
import random
import unittest

from turnguard.codes import fits, is_plain, run
from turnguard.signs import value
from turnguard.texts import read
from turnguard.walk import walk

LAST = 2 ** 48 - 1
SIGNS = "+ - * / < = & | ^".split(" ")

# Counts box 0 down, sending it each round.
COUNT_DOWN = [("num", 2, 1, 1, 1), ("fork", 0, 2, 4), ("out", 0, 3), ("op", 2, "-", 0, 0, 1, 1), ("back", 0)]
# The same, its rows in another order than they are done: the first stays, the rest stand backwards.
TURNED = [("num", 2, 1, 1, 4), ("back", 0), ("op", 2, "-", 0, 0, 1, 4), ("out", 0, 2), ("fork", 0, 3, 1)]
# One row of each form, every number in it 0, and what each number is.
FORMS = [
    (("num", 0, 0, 0, 0), (None, "side", "box", "value", "place")),
    (("copy", 0, 0, 0, 0), (None, "side", "box", "box", "place")),
    (("op", 0, "+", 0, 0, 0, 0), (None, "side", None, "box", "box", "box", "place")),
    (("out", 0, 0), (None, "box", "place")),
    (("fork", 0, 0, 0), (None, "box", "place", "place")),
    (("look", 0, 0), (None, "box", "place")),
    (("mark", 0), (None, "place")),
    (("back", 0), (None, "box")),
]


def put(row, at, number):
    return row[:at] + (number,) + row[at + 1:]


def within(part, places):
    last = {"side": 2, "box": 7, "value": LAST, "place": places - 1}[part]
    return sorted({0, min(1, last), last // 2, last - (last > 0), last})


def beyond(part, places):
    last = within(part, places)[-1]
    return [-1, -2, -last - 1, -LAST - 1, last + 1, last + 2, LAST + 1, 2 ** 100]


def every_number():
    """Each form, each place in it that has a number, and what that number is."""
    return [(row, at, part) for row, parts in FORMS for at, part in enumerate(parts) if part is not None]


def as_stands(rows):
    """Code of so many rows, each on to the one behind it, told without their Q."""
    return [row + (place + 1,) for place, row in enumerate(rows)]


def second_reckoning(code, args, most):
    """A run of plain code over a plain list of boxes."""
    boxes = (list(args) + [0] * 8)[:max(8, len(args))]
    sent = []
    place = 0
    for steps in range(1, most + 1):
        word, rest = code[place][0], code[place][1:]
        if word == "num":
            boxes[rest[1]] = rest[2]
            place = rest[3]
        elif word == "copy":
            boxes[rest[1]] = boxes[rest[2]]
            place = rest[3]
        elif word == "op":
            boxes[rest[2]] = value(rest[1], boxes[rest[3]], boxes[rest[4]])
            place = rest[5]
        elif word == "out":
            sent.append(boxes[rest[0]])
            place = rest[1]
        elif word == "fork":
            place = rest[1] if boxes[rest[0]] else rest[2]
        else:
            return ("back", sent, boxes[rest[0]], steps)
    return ("tired", sent, None, most)


def kinds_are_right(told):
    """Whether a run is told with the kinds of a run."""
    word, sent, answer, steps = told
    numbers = sent + [steps] + ([] if word == "tired" else [answer])
    return (type(told) is tuple and type(sent) is list and all(type(number) is int for number in numbers)
            and (word == "back" or (word == "tired" and answer is None)))


class Fits(unittest.TestCase):
    def fit(self, code, answer):
        self.assertIs(fits(code), answer, code)

    def test_no_rows(self):
        self.fit([], False)

    def test_ordinary_codes(self):
        self.fit(COUNT_DOWN, True)
        self.fit(TURNED, True)
        self.fit([("back", 0)], True)
        self.fit([("mark", 0)], True)

    def test_each_form_with_nothing_but_noughts(self):
        for row, parts in FORMS:
            self.fit([row], True)
            self.fit([row] * 5, True)

    def test_every_form_in_one_code(self):
        self.fit([row for row, parts in FORMS], True)

    def test_each_number_just_within_its_bound(self):
        for row, at, part in every_number():
            for places in (1, 2, 5, 200):
                for number in within(part, places):
                    self.fit([put(row, at, number)] + [("back", 0)] * (places - 1), True)

    def test_each_number_just_beyond_its_bound(self):
        for row, at, part in every_number():
            for places in (1, 2, 5, 200):
                for number in beyond(part, places):
                    self.fit([put(row, at, number)] + [("back", 0)] * (places - 1), False)

    def test_each_number_beyond_its_bound_in_any_row(self):
        for row, at, part in every_number():
            for ahead, behind in ((0, 4), (1, 3), (2, 2), (4, 0)):
                for number in (-1, within(part, 5)[-1] + 1):
                    code = [("out", 0, 4)] * ahead + [put(row, at, number)] + [("back", 7)] * behind
                    self.fit(code, False)

    def test_all_numbers_at_their_last_at_once(self):
        for row, parts in FORMS:
            for at, part in enumerate(parts):
                if part is not None:
                    row = put(row, at, within(part, 3)[-1])
            self.fit([row] * 3, True)

    def test_a_place_is_no_box_and_no_value(self):
        far = [("back", 0)] * 149
        self.fit([("out", 7, 149)] + far, True)
        self.fit([("out", 149, 7)] + far, False)
        self.fit([("fork", 7, 149, 149)] + far, True)
        self.fit([("num", 2, 7, 150, 149)] + far, True)
        self.fit([("num", 2, 7, 149, 150)] + far, False)

    def test_every_sign(self):
        for sign in SIGNS:
            self.fit([("op", 2, sign, 7, 7, 7, 0)], True)
            self.fit([("op", 3, sign, 7, 7, 7, 0)], False)

    def test_200_rows_and_somewhat_more(self):
        for many in (199, 200, 201, 700):
            code = as_stands([("out", 0)] * (many - 1)) + [("back", 0)]
            self.fit(code, True)
            self.fit(code[:-1], False)
            self.fit(code[:-1] + [("back", 8)], False)

    def test_nothing_handed_in_is_changed(self):
        for code in ([], list(COUNT_DOWN), [("num", 3, 0, 0, 0)]):
            kept = copy.deepcopy(code)
            fits(code)
            self.assertEqual(code, kept)

    def test_nothing_is_kept_of_a_code(self):
        code = list(COUNT_DOWN)
        self.fit(code, True)
        code[4] = ("back", 8)
        self.fit(code, False)
        code[4] = ("back", 7)
        self.fit(code, True)
        code.pop()
        self.fit(code, False)


class Plain(unittest.TestCase):
    def plain(self, row, answer):
        """A row, alone, and first, between, last and where nothing leads among plain rows."""
        self.assertIs(is_plain([row]), answer, row)
        others = [("num", 2, 0, 5, 0), ("fork", 0, 0, 1), ("back", 0)]
        for at in range(4):
            code = others[:at] + [row] + others[at:]
            self.assertIs(is_plain(code), answer, code)

    def test_ordinary_codes(self):
        self.assertIs(is_plain(COUNT_DOWN), True)
        self.assertIs(is_plain(TURNED), True)

    def test_rows_without_sides(self):
        for row in (("out", 0, 0), ("out", 2, 0), ("fork", 0, 0, 0), ("fork", 1, 0, 0), ("back", 0), ("back", 1)):
            self.plain(row, True)

    def test_a_look(self):
        for row in (("look", 0, 0), ("look", 2, 0), ("look", 7, 0)):
            self.plain(row, False)

    def test_a_mark(self):
        self.plain(("mark", 0), False)
        self.assertIs(is_plain([("back", 0)] * 2 + [("mark", 2)]), False)

    def test_deeds_of_one_side_of_the_other_and_of_both(self):
        for side, answer in ((0, False), (1, False), (2, True)):
            self.plain(("num", side, 0, 0, 0), answer)
            self.plain(("num", side, 2, 2, 0), answer)
            self.plain(("copy", side, 0, 0, 0), answer)
            self.plain(("copy", side, 2, 2, 0), answer)
            for sign in SIGNS:
                self.plain(("op", side, sign, 0, 0, 0, 0), answer)
                self.plain(("op", side, sign, 2, 2, 2, 0), answer)

    def test_200_rows(self):
        code = as_stands([("num", 2, 0, 1)] * 199) + [("back", 0)]
        self.assertIs(is_plain(code), True)
        for row in (("look", 0, 199), ("mark", 199), ("num", 0, 0, 1, 199), ("num", 1, 0, 1, 199)):
            self.assertIs(is_plain(code[:198] + [row] + code[199:]), False)

    def test_nothing_handed_in_is_changed(self):
        for code in (list(COUNT_DOWN), [("mark", 0), ("num", 1, 0, 0, 0)]):
            kept = copy.deepcopy(code)
            is_plain(code)
            self.assertEqual(code, kept)


class RunCase(unittest.TestCase):
    def ran(self, code, args, word, sent, answer, steps):
        """The run with ample bound, and with every lower one."""
        self.assertTrue(fits(code) and is_plain(code))
        told = run(code, args, 3000)
        self.assertEqual(told, (word, sent, answer, steps))
        self.assertTrue(kinds_are_right(told))
        self.assertEqual(run(code, args, steps), told)
        done = 0
        for most in range(steps):
            tired = run(code, args, most)
            self.assertTrue(kinds_are_right(tired))
            self.assertEqual(tired, ("tired", sent[:len(tired[1])], None, most))
            self.assertLessEqual(done, len(tired[1]))
            self.assertLessEqual(len(tired[1]), done + 1)
            done = len(tired[1])


class Rows(RunCase):
    def test_back_alone(self):
        for box in range(8):
            self.ran([("back", box)], [10, 11, 12, 13, 14, 15, 16, LAST], "back", [], ([*range(10, 17), LAST])[box], 1)
            self.ran([("back", box)], [], "back", [], 0, 1)

    def test_num(self):
        for box in range(8):
            for number in (0, 1, LAST):
                self.ran([("num", 2, box, number, 1), ("back", box)], [5], "back", [], number, 2)
        self.ran([("num", 2, 1, 9, 1), ("back", 0)], [5], "back", [], 5, 2)

    def test_copy(self):
        self.ran([("copy", 2, 7, 0, 1), ("back", 7)], [5], "back", [], 5, 2)
        self.ran([("copy", 2, 0, 7, 1), ("back", 0)], [5], "back", [], 0, 2)
        self.ran([("copy", 2, 7, 0, 1), ("back", 0)], [5], "back", [], 5, 2)
        self.ran([("copy", 2, 0, 0, 1), ("back", 0)], [5], "back", [], 5, 2)

    def test_op(self):
        for sign, answer in zip(SIGNS, (16, 8, 48, 3, 0, 0, 4, 12, 8)):
            self.ran([("op", 2, sign, 5, 0, 1, 1), ("back", 5)], [12, 4], "back", [], answer, 2)
        for sign, answer in zip(SIGNS, (16, LAST - 7, 48, 0, 1, 0, 4, 12, 8)):
            self.ran([("op", 2, sign, 5, 1, 0, 1), ("back", 5)], [12, 4], "back", [], answer, 2)

    def test_op_into_a_box_that_it_reads(self):
        self.ran([("op", 2, "-", 0, 0, 1, 1), ("back", 0)], [9, 4], "back", [], 5, 2)
        self.ran([("op", 2, "-", 1, 0, 1, 1), ("back", 1)], [9, 4], "back", [], 5, 2)
        self.ran([("op", 2, "*", 0, 0, 0, 1), ("back", 0)], [9], "back", [], 81, 2)

    def test_op_of_boxes_that_nothing_was_given(self):
        self.ran([("op", 2, "=", 5, 6, 7, 1), ("back", 5)], [9, 4], "back", [], 1, 2)
        self.ran([("op", 2, "/", 5, 0, 7, 1), ("back", 5)], [9, 4], "back", [], 0, 2)

    def test_out(self):
        code = as_stands([("out", 1), ("out", 7), ("out", 0), ("num", 2, 0, 8), ("out", 0)]) + [("back", 0)]
        self.ran(code, [3, LAST], "back", [LAST, 0, 3, 8], 8, 6)

    def test_fork(self):
        code = [("fork", 0, 2, 1), ("back", 1), ("back", 2)]
        for number in (1, 2, 2 ** 47, LAST):
            self.ran(code, [number, 10, 20], "back", [], 20, 2)
        self.ran(code, [0, 10, 20], "back", [], 10, 2)
        self.ran([("fork", 7, 2, 1), ("back", 1), ("back", 2)], [5, 10, 20], "back", [], 10, 2)

    def test_a_fork_with_both_places_alike(self):
        code = [("fork", 0, 2, 2), ("back", 1), ("out", 2, 1)]
        for number in (0, 1, LAST):
            self.ran(code, [number, 10, 20], "back", [20], 10, 3)


class Orders(RunCase):
    def test_rows_in_the_order_in_which_they_are_done(self):
        self.ran(COUNT_DOWN, [0], "back", [], 0, 3)
        self.ran(COUNT_DOWN, [4], "back", [4, 3, 2, 1], 0, 15)

    def test_rows_in_another_order(self):
        self.ran(TURNED, [0], "back", [], 0, 3)
        self.ran(TURNED, [4], "back", [4, 3, 2, 1], 0, 15)
        self.ran([("out", 0, 3), ("back", 0), ("num", 2, 0, 7, 1), ("out", 1, 2)], [3, 4], "back", [3, 4], 7, 4)

    def test_it_begins_at_place_0_and_leaves_out_what_nothing_leads_to(self):
        self.ran([("out", 0, 2), ("out", 1, 2), ("back", 2)], [3, 4, 5], "back", [3], 5, 2)

    def test_the_same_rows_in_any_order_but_the_first(self):
        chance = random.Random(9)
        for k in range(40):
            places = [0] + chance.sample(range(1, 5), 4)
            code = [None] * 5
            for place, row in enumerate(COUNT_DOWN):
                keep = {"num": 4, "out": 2, "fork": 2, "op": 6, "back": 2}[row[0]]
                code[places[place]] = row[:keep] + tuple(places[q] for q in row[keep:])
            self.ran(code, [3], "back", [3, 2, 1], 0, 12)

    def test_a_row_that_goes_on_to_itself(self):
        for most in (0, 1, 2, 400, 3000):
            self.assertEqual(run([("out", 0, 0)], [7], most), ("tired", [7] * most, None, most))
            for row in (("num", 2, 0, 5, 0), ("copy", 2, 0, 1, 0), ("op", 2, "+", 0, 0, 0, 0), ("fork", 0, 0, 0)):
                self.assertEqual(run([row], [7], most), ("tired", [], None, most))
            code = [("fork", 0, 0, 1), ("back", 1)]
            self.assertEqual(run(code, [7], most), ("tired", [], None, most))
        self.ran([("fork", 0, 0, 1), ("back", 1)], [0, 9], "back", [], 9, 2)
        self.ran([("fork", 0, 1, 0), ("back", 1)], [1, 9], "back", [], 9, 2)

    def test_rows_that_go_round_are_done_each_time(self):
        code = [("op", 2, "+", 1, 1, 0, 1), ("out", 1, 0)]
        self.assertEqual(run(code, [3], 7), ("tired", [3, 6, 9], None, 7))

    def test_200_rows_and_somewhat_more(self):
        for many in (199, 200, 201, 500):
            code = as_stands([("op", 2, "+", 0, 0, 1)] * (many - 2) + [("out", 0)]) + [("back", 0)]
            self.ran(code, [0, 2], "back", [2 * many - 4], 2 * many - 4, many)


class Bounds(RunCase):
    def test_nought(self):
        for code in (COUNT_DOWN, [("back", 0)], [("out", 0, 0)]):
            told = run(code, [3], 0)
            self.assertEqual(told, ("tired", [], None, 0))
            self.assertTrue(kinds_are_right(told))

    def test_just_enough_and_one_less(self):
        self.assertEqual(run(COUNT_DOWN, [2], 9), ("back", [2, 1], 0, 9))
        self.assertEqual(run(COUNT_DOWN, [2], 10), ("back", [2, 1], 0, 9))
        self.assertEqual(run(COUNT_DOWN, [2], 8), ("tired", [2, 1], None, 8))

    def test_what_was_sent_by_then(self):
        sent = [len(run(COUNT_DOWN, [2], most)[1]) for most in range(10)]
        self.assertEqual(sent, [0, 0, 0, 1, 1, 1, 2, 2, 2, 2])

    def test_left_out_it_is_400(self):
        self.assertEqual(run([("out", 0, 0)], [7]), ("tired", [7] * 400, None, 400))
        for many in (399, 400):
            code = as_stands([("out", 0)] * (many - 1)) + [("back", 0)]
            self.assertEqual(run(code, []), ("back", [0] * (many - 1), 0, many))
        code = as_stands([("out", 0)] * 400) + [("back", 0)]
        self.assertEqual(run(code, []), ("tired", [0] * 400, None, 400))

    def test_by_its_name(self):
        self.assertEqual(run(code=COUNT_DOWN, args=[2], most=3), ("tired", [2], None, 3))

    def test_3000_and_somewhat_more(self):
        for most in (2999, 3000, 3001, 5000):
            self.assertEqual(run([("out", 0, 0)], [7], most), ("tired", [7] * most, None, most))


class Args(RunCase):
    def test_none(self):
        code = as_stands([("out", box) for box in range(8)]) + [("back", 0)]
        self.ran(code, [], "back", [0] * 8, 0, 9)

    def test_one_to_eight_and_somewhat_more(self):
        code = as_stands([("out", box) for box in range(8)]) + [("back", 0)]
        for many in range(1, 11):
            args = [LAST - k for k in range(many)]
            self.ran(code, args, "back", (args + [0] * 8)[:8], LAST, 9)


class NothingIsChanged(RunCase):
    def test_what_is_handed_in(self):
        for code, args in ((COUNT_DOWN, [3]), (TURNED, [3, 4, 5]), ([("num", 2, 0, 1, 1), ("back", 0)], [])):
            kept = copy.deepcopy((code, args))
            run(code, args)
            run(code, args, 3)
            self.assertEqual((code, args), kept)

    def test_sent_is_a_new_list_each_time(self):
        for most in (0, 4, 400):
            first = run(COUNT_DOWN, [2], most)
            kept = copy.deepcopy(first)
            first[1].append(99)
            first[1][0] = 98
            second = run(COUNT_DOWN, [2], most)
            self.assertEqual(second, kept)
            self.assertIsNot(first[1], second[1])

    def test_what_is_done_later_to_what_was_handed_in(self):
        code = [("out", 0, 1), ("back", 0)]
        args = [5]
        told = run(code, args)
        told[1].append(6)
        self.assertEqual((code, args), ([("out", 0, 1), ("back", 0)], [5]))
        args[0] = 7
        code[0] = ("out", 1, 1)
        self.assertEqual(told, ("back", [5, 6], 5, 2))
        self.assertEqual(run(code, args), ("back", [0], 7, 2))

    def test_nothing_is_kept_between_calls(self):
        code = as_stands([("op", 2, "+", 3, 3, 0), ("out", 3), ("num", 2, 0, 9), ("num", 2, 3, 9)]) + [("back", 3)]
        for k in range(3):
            self.assertEqual(run(code, []), ("back", [0], 9, 5))
            self.assertEqual(run(code, [4]), ("back", [4], 9, 5))
            self.assertEqual(run(COUNT_DOWN, [9], 5), ("tired", [9], None, 5))


def made_row(chance, places):
    box = [chance.randrange(4) for k in range(3)]
    one, other = chance.randrange(places), chance.randrange(places)
    word = chance.choice(("num", "copy", "op", "op", "out", "fork", "fork", "back"))
    if word == "num":
        return ("num", 2, box[0], chance.choice((0, 0, 1, 2, LAST, chance.randint(0, LAST))), one)
    if word == "copy":
        return ("copy", 2, box[0], box[1], one)
    if word == "op":
        return ("op", 2, chance.choice(SIGNS), box[0], box[1], box[2], one)
    if word == "fork":
        return ("fork", box[0], one, other)
    return ("out", box[0], one) if word == "out" else ("back", box[0])


class MadeCodes(RunCase):
    def test_held_against_a_second_reckoning(self):
        chance = random.Random(10)
        words = []
        for k in range(3000):
            places = chance.randint(1, 12)
            code = [made_row(chance, places) for place in range(places)]
            args = [chance.choice((0, 1, 2, LAST, chance.randint(0, LAST))) for k in range(chance.randint(0, 8))]
            self.assertTrue(fits(code) and is_plain(code))
            for most in (300, chance.randint(0, 12)):
                told = run(code, args, most)
                words.append(told[0])
                self.assertEqual(told, second_reckoning(code, args, most), (code, args, most))
                self.assertTrue(kinds_are_right(told))
        self.assertGreater(words.count("back"), 500)
        self.assertGreater(words.count("tired"), 500)

    def test_code_written_by_hand_runs_as_its_text_is_walked(self):
        program = read("in n\none = 1\nwhile n {\nout n\nn = n - one\n}\nback n")
        for n in range(6):
            for most in range(25):
                self.assertEqual(run(COUNT_DOWN, [n], most), walk(program, [n], most))
                self.assertEqual(run(TURNED, [n], most), walk(program, [n], most))


if __name__ == "__main__":
    unittest.main()
