import copy
import unittest

from turnguard.codes import fits
from turnguard.errors import GuardError, Late, NoProgram
from turnguard.flat import flat
from turnguard.harden import harden
from turnguard.harms import delay
from turnguard.texts import read
from turnguard.thin import thin
from turnguard.twins import twin
from turnguard.whole import guard, trial

COUNT_DOWN = "in n\none = 1\nwhile n {\nout n\nn = n - one\n}\nback n"
# Its hardened code has a delay of 7; box 0 is sent each round, so that only the look at box 1 is needed.
GUARDED = [("num", 0, 1, 1, 1), ("num", 1, 1, 1, 2), ("look", 1, 3), ("fork", 0, 4, 7), ("out", 0, 5),
           ("op", 0, "-", 0, 0, 1, 6), ("op", 1, "-", 0, 0, 1, 2), ("back", 0)]
ADDS_UP = "in n\none = 1\nwhile n {\nsum = sum + n\nn = n - one\n}\nback sum"
TEXTS = (COUNT_DOWN, ADDS_UP, "in\nback a", "in a\nwhile a {\n}\nback a", "in a b\nif a {\nb = a\n}\nout b\nback a")

# The plain code of the count down: places 1 to 3 go round.
PLAIN = [("num", 2, 1, 1, 1), ("fork", 0, 2, 4), ("out", 0, 3), ("op", 2, "-", 0, 0, 1, 1), ("back", 0)]


class Guard(unittest.TestCase):
    def guarded(self, text, asked, code, number):
        found = guard(text, asked)
        self.assertEqual(found, (read(text), code, number))
        self.assertIs(type(found), tuple)
        self.assertIs(type(found[1]), list)
        self.assertIs(type(found[2]), int)
        self.assertTrue(fits(found[1]))
        self.assertLessEqual(delay(found[1]), number)

    def late(self, text, asked, expected):
        with self.assertRaises(Late) as caught:
            guard(text, asked)
        self.assertEqual(caught.exception.delay, expected)
        self.assertIsInstance(caught.exception, GuardError)

    def test_without_a_number(self):
        self.assertEqual(delay(harden(flat(read(COUNT_DOWN)))), 7)
        self.guarded(COUNT_DOWN, None, GUARDED, 7)
        self.assertEqual(guard(COUNT_DOWN), (read(COUNT_DOWN), GUARDED, 7))
        self.guarded("in a\nback a", None, [("back", 0)], 1)

    def test_the_number_is_the_hardened_codes_delay_not_that_of_what_is_left(self):
        text = "in a\nif a {\n}\nback a"
        # Hardened: fork, look, mark, back; the mark's harm lasts from the fork to the mark.
        self.assertEqual(delay(harden(flat(read(text)))), 3)
        self.guarded(text, None, [("fork", 0, 1, 1), ("back", 0)], 3)
        self.assertEqual(delay(guard(text)[1]), 2)

    def test_with_a_number(self):
        self.guarded(COUNT_DOWN, 7, GUARDED, 7)
        self.guarded(COUNT_DOWN, 8, GUARDED, 8)
        self.guarded(COUNT_DOWN, 3000, GUARDED, 3000)
        self.guarded("in a\nback a", 1, [("back", 0)], 1)
        self.guarded("in a\nback a", 3000, [("back", 0)], 3000)

    def test_a_greater_number_leaves_out_more(self):
        code = harden(flat(read(ADDS_UP)))
        own = delay(code)
        self.guarded(ADDS_UP, None, thin(code, own), own)
        self.guarded(ADDS_UP, own + 20, thin(code, own + 20), own + 20)
        text = "in a b\nout b\nif a {\nb = a\n} else {\na = b\n}\nout a\nc = a\nd = b\nout a\nback b"
        code = harden(flat(read(text)))
        self.assertLess(len(guard(text, 3000)[1]), len(guard(text)[1]))
        self.assertEqual([row for row in guard(text, 3000)[1] if row[0] in ("look", "mark")], [])

    def test_one_less_than_the_delay(self):
        self.late(COUNT_DOWN, 6, 7)
        self.late(COUNT_DOWN, 1, 7)
        for text in TEXTS:
            own = delay(harden(flat(read(text))))
            self.assertEqual(guard(text)[2], own)
            self.assertEqual(guard(text, own), guard(text))
            if own > 1:
                self.late(text, own - 1, own)

    def test_less_than_the_delay_though_what_would_be_left_has_less(self):
        self.late("in a\nif a {\n}\nback a", 2, 3)

    def test_a_text_that_is_refused(self):
        for text, row in (("", 0), ("in a", 1), ("back a", 0), ("in\nx = y z\nback x", 1),
                          ("in a\nwhile a {\nback a", 2), ("in a\nback a\n", 2), ("in a a\nback a", 0)):
            for number in (None, 1, 3000):
                with self.assertRaises(NoProgram) as caught:
                    guard(text, number)
                self.assertEqual(caught.exception.row, row)

    def test_texts_of_12_statements(self):
        text = "in a b c d e f g h\n" + "while a {\nb = a + c\nif b {\nout d\n}\n" * 3 + "}\n" * 3 + "back h"
        program, code, number = guard(text)
        self.assertEqual(code, thin(harden(flat(program)), number))
        self.assertEqual(twin(code, [0, 1, 2, 3, 4, 5, 6, 7])[:3], ("back", [], 7))


class Trial(unittest.TestCase):
    def tried(self, code, args, turns, most, expected):
        kept = copy.deepcopy((code, args, turns))
        found = trial(code, args, turns, most)
        self.assertEqual(found, expected, (code, args, turns, most))
        self.assertIs(type(found), tuple)
        self.assertIs(type(found[1]), type(expected[1]))
        self.assertEqual((code, args, turns), kept)

    def test_alike_without_turns(self):
        self.tried(GUARDED, [2], [], 400, ("alike", None))
        self.tried(GUARDED, [2], [], 0, ("alike", None))
        self.tried(GUARDED, [2], None, 400, ("alike", None))
        self.assertEqual(trial(GUARDED, [2], []), ("alike", None))

    def test_alike_with_turns_that_make_no_difference(self):
        self.tried(GUARDED, [2], [(0, ("box", 0, 1, 5))], 400, ("alike", None))
        self.tried(GUARDED, [2], [(0, ("box", 1, 7, 5)), (9, ("box", 0, 6, 5))], 400, ("alike", None))
        self.tried(PLAIN, [2], [(8, ("box", 1, 1, 5))], 400, ("alike", None))

    def test_alike_where_the_step_is_not_come_to(self):
        self.tried(PLAIN, [2], [(9, ("mark", 5))], 400, ("alike", None))
        self.tried(PLAIN, [2], [(5, ("mark", 5))], 5, ("alike", None))
        self.tried(PLAIN, [2], [(0, ("mark", 5))], 0, ("alike", None))

    def test_alike_where_the_bound_comes_ahead_of_the_cry(self):
        # The mark is harmed at the fork, and seen at the out.
        self.tried(PLAIN, [2], [(1, ("mark", 5))], 2, ("alike", None))
        self.tried(PLAIN, [2], [(1, ("mark", 5))], 3, ("cried", 2))

    def test_cried(self):
        self.tried(PLAIN, [2], [(5, ("box", 1, 0, 0))], 400, ("cried", 1))
        self.tried(PLAIN, [2], [(5, ("box", 1, 0, 0))], 6, ("cried", 1))
        self.tried(PLAIN, [2], [(3, ("mark", 0))], 400, ("cried", 3))
        self.tried(PLAIN, [2], [(0, ("place", 47))], 400, ("cried", 1))
        self.assertEqual(trial(PLAIN, [2], [(3, ("mark", 0))]), ("cried", 3))

    def test_the_bound_left_out(self):
        self.assertEqual(trial([("out", 0, 0)], [7], [(399, ("mark", 0))]), ("cried", 1))
        self.assertEqual(trial([("out", 0, 0)], [7], [(400, ("mark", 0))]), ("alike", None))

    def test_cried_where_the_run_without_is_tired(self):
        self.tried([("out", 0, 0)], [2], [(7, ("mark", 0))], 20, ("cried", 1))

    def test_the_steps_are_those_behind_the_last_turn_that_was_done(self):
        code = [("num", 2, 1, 1, 1), ("num", 2, 1, 1, 2), ("num", 2, 1, 1, 3), ("back", 0)]
        harm, none = ("mark", 3), ("box", 0, 7, 0)
        self.tried(code, [2], [(0, harm)], 400, ("cried", 4))
        self.tried(code, [2], [(0, harm), (2, none)], 400, ("cried", 2))
        self.tried(code, [2], [(0, none), (1, harm)], 400, ("cried", 3))
        self.tried(code, [2], [(0, none), (1, harm), (3, none)], 400, ("cried", 1))

    def test_the_last_turn_was_not_done(self):
        code = [("num", 2, 1, 1, 1), ("num", 2, 1, 1, 2), ("num", 2, 1, 1, 3), ("back", 0)]
        harm, none = ("mark", 3), ("box", 0, 7, 0)
        # Four steps are taken, so that the last turn that can be done is at step 3.
        self.tried(code, [2], [(0, harm), (3, none), (4, none)], 400, ("cried", 1))
        self.tried(code, [2], [(0, harm), (4, none)], 400, ("cried", 4))
        self.tried(code, [2], [(0, harm), (4, harm), (5, none), (2999, none)], 400, ("cried", 4))
        self.tried(code, [2], [(2, harm), (4, harm)], 400, ("cried", 2))

    def test_else_tired_in_the_one_and_not_in_the_other(self):
        # Place 2, to which nothing leads, goes on to itself.
        code = [("num", 2, 1, 1, 1), ("back", 0), ("num", 2, 1, 1, 2)]
        self.tried(code, [2], [(0, ("place", 1))], 400, ("else", None))
        self.assertEqual(twin(code, [2], [(0, ("place", 1))])[0], "tired")
        # Two turns too near to one another: a round is left out.
        turns = [(1, ("place", 1)), (2, ("mark", 1))]
        self.tried(PLAIN, [2], turns, 7, ("else", None))
        self.assertEqual([twin(PLAIN, [2], some, 7)[0] for some in (None, turns)], ["tired", "back"])

    def test_else_another_answer_or_more_sent(self):
        code = [("num", 2, 1, 1, 1), ("num", 2, 1, 1, 2), ("back", 0)]
        self.tried(code, [2], [(0, ("box", 0, 0, 5)), (1, ("box", 1, 0, 5))], 400, ("else", None))
        turns = [(1, ("place", 1)), (2, ("mark", 1))]
        self.tried(PLAIN, [2], turns, 400, ("else", None))
        self.tried(PLAIN, [2], turns, 6, ("else", None))

    def test_code_that_cries_by_itself(self):
        code = [("num", 0, 0, 5, 1), ("num", 2, 1, 5, 2), ("look", 0, 3), ("back", 0)]
        self.tried(code, [], [], 400, ("alike", None))
        self.tried(code, [], [(0, ("box", 0, 3, 3))], 400, ("alike", None))
        self.tried(code, [], [(1, ("place", 2))], 400, ("cried", 1))
        self.tried(code, [], [(1, ("box", 1, 0, 0)), (2, ("box", 1, 0, 2))], 400, ("else", None))


class NothingIsChanged(unittest.TestCase):
    def test_guard_gives_new_code_each_time(self):
        for text in TEXTS:
            first = guard(text)
            kept = list(first[1])
            first[1].append(("back", 7))
            first[1][0] = ("mark", 0)
            self.assertEqual(guard(text)[1], kept)

    def test_nothing_is_kept_between_calls(self):
        for k in range(2):
            self.assertEqual(guard(COUNT_DOWN)[1], GUARDED)
            with self.assertRaises(Late):
                guard(COUNT_DOWN, 6)
            self.assertEqual(trial(PLAIN, [2], [(5, ("box", 1, 0, 0))]), ("cried", 1))
            self.assertEqual(trial(PLAIN, [2], []), ("alike", None))

    def test_what_is_done_later_to_turns(self):
        turns = [(5, ("box", 1, 0, 0))]
        self.assertEqual(trial(PLAIN, [2], turns), ("cried", 1))
        turns[0] = (3, ("mark", 0))
        self.assertEqual(trial(PLAIN, [2], turns), ("cried", 3))
        turns.clear()
        self.assertEqual(trial(PLAIN, [2], turns), ("alike", None))


if __name__ == "__main__":
    unittest.main()
