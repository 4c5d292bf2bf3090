import copy
import random
import unittest

from turnguard.codes import fits
from turnguard.errors import GuardError, Late, NoProgram
from turnguard.flat import flat
from turnguard.harden import harden
from turnguard.harms import delay
from turnguard.texts import read
from turnguard.thin import can_go, need, thin, without

SIGNS = "+ - * / < = & | ^".split(" ")

# Goes round as long as box 0 is not 0: without the look, or without the mark, harm has no end.
ROUND = [("look", 0, 1), ("mark", 2), ("fork", 0, 0, 3), ("back", 0)]
# Nothing here needs the look: the back tells the same a step later.
SHORT = [("look", 0, 1), ("back", 0)]
# Box 3 is read by the look at place 3 alone.
TWICE = [("out", 2, 1), ("out", 2, 2), ("look", 0, 3), ("look", 3, 4), ("out", 2, 5), ("out", 0, 6), ("back", 2)]
COUNT_DOWN = [("num", 0, 1, 1, 1), ("num", 1, 1, 1, 2), ("look", 0, 3), ("look", 1, 4), ("mark", 5),
              ("fork", 0, 6, 9), ("out", 0, 7), ("op", 0, "-", 0, 0, 1, 8), ("op", 1, "-", 0, 0, 1, 2), ("back", 0)]
NO_DELAY = [("look", 0, 1), ("fork", 0, 0, 2), ("back", 0)]
SAMPLES = (ROUND, SHORT, TWICE, COUNT_DOWN, [("back", 0)], [("mark", 0)], [("look", 0, 2), ("mark", 2), ("back", 0)])


def ways_on(row):
    if row[0] == "back":
        return []
    return [row[2], row[3]] if row[0] == "fork" else [row[len(row) - 1]]


def spots_of(row):
    """What a row reads and gives, as sets."""
    word = row[0]
    if word == "mark":
        return set(), set()
    if word in ("out", "fork", "look", "back"):
        return {(0, row[1]), (1, row[1])}, set()
    sides = {0: (0,), 1: (1,), 2: (0, 1)}[row[1]]
    taken = {"num": (), "copy": row[3:4], "op": row[4:6]}[word]
    given = row[3] if word == "op" else row[2]
    return {(side, box) for side in sides for box in taken}, {(side, given) for side in sides}


def live_spots(code):
    found = [set() for row in code]
    grown = True
    while grown:
        grown = False
        for place, row in enumerate(code):
            taken, given = spots_of(row)
            now = taken | (set().union(*[found[way] for way in ways_on(row)]) - given)
            grown = grown or now != found[place]
            found[place] = now
    return found


def second_lasts(code, lively, place, thing):
    row = code[place]
    if thing == "mark":
        return set() if row[0] in ("mark", "out", "back") else {(way, "mark") for way in ways_on(row)}
    if row[0] in ("look", "out", "back") and thing[1] == row[1]:
        return set()
    taken, given = spots_of(row)
    found = set()
    for way in ways_on(row):
        if thing not in given:
            found |= {(way, thing)} if thing in lively[way] else set()
        if thing in taken:
            found |= {(way, spot) for spot in given if spot[0] == thing[0] and spot in lively[way]}
    return found


def second_graph(code):
    lively = live_spots(code)
    return {(place, thing): second_lasts(code, lively, place, thing)
            for place in range(len(code)) for thing in sorted(lively[place]) + ["mark"]}


def longest_up_to(graph, most):
    """The number of harms of the longest way, no further than asked."""
    growing = set(graph)
    for many in range(1, most):
        growing = {harm for harm in growing if graph[harm] & growing}
        if not growing:
            return many
    return most


def second_delay(code):
    graph = second_graph(code)
    found = longest_up_to(graph, len(graph) + 1)
    return None if found > len(graph) else found


def second_can_go(code, place):
    return code[place][0] in ("look", "mark") and code[place][len(code[place]) - 1] == place + 1


def second_without(code, place):
    """Rows with names for places, the old places; who goes on to the one that went takes the one behind it."""
    left = [other for other in range(len(code)) if other != place]
    found = []
    for other in left:
        ways = [place + 1 if way == place else way for way in ways_on(code[other])]
        found.append(code[other][:len(code[other]) - len(ways)] + tuple(left.index(way) for way in ways))
    return found


def second_thin(code, number):
    """What is left, and how often it was gone through."""
    times = 0
    while True:
        times += 1
        many = len(code)
        place = 0
        while place < len(code):
            if second_can_go(code, place):
                fewer = second_without(code, place)
                found = second_delay(fewer)
                if found is not None and found <= number:
                    code = fewer
                    continue
            place += 1
        if len(code) == many:
            return code, times


class Case(unittest.TestCase):
    def left(self, code, place, expected):
        self.assertTrue(fits(code))
        self.assertIs(can_go(code, place), True)
        kept = copy.deepcopy(code)
        found = without(code, place)
        self.assertEqual(found, expected)
        self.assertIs(type(found), list)
        self.assertTrue(all(type(row) is tuple for row in found))
        self.assertTrue(fits(found))
        self.assertEqual(code, kept)
        self.assertEqual(second_without(code, place), expected)

    def thinned(self, code, number, expected):
        self.assertTrue(fits(code))
        kept = copy.deepcopy(code)
        found = thin(code, number)
        self.assertEqual(found, expected, (code, number))
        self.assertIs(type(found), list)
        self.assertIsNot(found, code)
        self.assertTrue(fits(found))
        self.assertEqual(code, kept)
        self.assertLessEqual(delay(found), number)
        for place in range(len(found)):
            if second_can_go(found, place):
                # What stays is needed.
                later = second_delay(second_without(found, place))
                self.assertTrue(later is None or later > number, (code, number, place))
                self.assertIsNotNone(need(found, place, number))

    def refused(self, code, number, expected):
        kept = copy.deepcopy(code)
        with self.assertRaises(Late) as caught:
            thin(code, number)
        self.assertEqual(caught.exception.delay, expected)
        self.assertIs(type(caught.exception.delay), type(expected))
        self.assertIsInstance(caught.exception, GuardError)
        self.assertNotIsInstance(caught.exception, NoProgram)
        self.assertEqual(code, kept)

    def needed(self, code, place, number, is_there):
        """What need gives is a way of harm, in the code without the place, of one more harm than the number."""
        kept = copy.deepcopy(code)
        found = need(code, place, number)
        self.assertEqual(code, kept)
        if not is_there:
            self.assertIsNone(found, (code, place, number))
            return None
        self.assertIs(type(found), list, (code, place, number))
        self.assertEqual(len(found), number + 1)
        graph = second_graph(second_without(code, place))
        for harm in found:
            self.assertIs(type(harm), tuple)
            self.assertIn(harm, graph)
        for one, other in zip(found, found[1:]):
            self.assertIn(other, graph[one])
        self.assertEqual(need(code, place, number), found)
        return found


class CanGo(unittest.TestCase):
    def can(self, code, expected):
        self.assertTrue(fits(code))
        found = [can_go(code, place) for place in range(len(code))]
        self.assertEqual(found, [mark == "y" for mark in expected])
        self.assertTrue(all(type(one) is bool for one in found))

    def test_looks_and_marks_on_to_the_place_behind(self):
        self.can([("look", 0, 1), ("mark", 2), ("look", 7, 3), ("back", 0)], "yyyn")

    def test_looks_and_marks_on_to_another_place(self):
        self.can([("look", 0, 2), ("mark", 3), ("look", 0, 2), ("mark", 0), ("back", 0)], "nnnnn")
        self.can([("look", 0, 0), ("mark", 1), ("look", 1, 1), ("back", 0)], "nnnn")
        self.can([("back", 0), ("mark", 0), ("look", 3, 1), ("look", 2, 0)], "nnnn")

    def test_the_last_place(self):
        self.can([("mark", 0)], "n")
        self.can([("look", 0, 0)], "n")
        self.can([("back", 0), ("look", 1, 0)], "nn")
        self.can([("back", 0), ("look", 1, 1)], "nn")
        self.can([("back", 0), ("mark", 1)], "nn")

    def test_a_box_that_is_like_the_place_behind(self):
        self.can([("look", 1, 2), ("look", 2, 0), ("back", 0)], "nnn")
        self.can([("look", 2, 1), ("look", 1, 2), ("back", 0)], "yyn")

    def test_other_rows(self):
        self.can([("num", 2, 0, 1, 1), ("copy", 0, 1, 2, 2), ("op", 1, "+", 0, 1, 2, 3), ("out", 4, 4),
                  ("fork", 5, 5, 5), ("back", 6)], "nnnnnn")

    def test_places_that_the_code_has_not(self):
        for code in ([("mark", 0)], [("mark", 1), ("mark", 0)]):
            self.assertIs(can_go(code, len(code)), False)
            self.assertIs(can_go(code, -1), False)


class Without(Case):
    def test_the_first_place(self):
        self.left([("look", 0, 1), ("out", 0, 2), ("back", 0)], 0, [("out", 0, 1), ("back", 0)])
        self.left([("mark", 1), ("back", 0)], 0, [("back", 0)])
        self.left([("mark", 1), ("out", 3, 0)], 0, [("out", 3, 0)])

    def test_in_the_middle(self):
        self.left([("out", 0, 1), ("mark", 2), ("out", 1, 3), ("back", 0)], 1,
                  [("out", 0, 1), ("out", 1, 2), ("back", 0)])

    def test_rows_from_ahead_and_behind_that_go_on_to_it(self):
        self.left([("fork", 0, 2, 3), ("out", 0, 2), ("look", 0, 3), ("fork", 1, 2, 4), ("num", 2, 1, 2, 2)], 2,
                  [("fork", 0, 2, 2), ("out", 0, 2), ("fork", 1, 2, 3), ("num", 2, 1, 2, 2)])

    def test_each_form_of_row_that_goes_on_to_places_ahead_of_it_at_it_and_behind_it(self):
        for way, expected in ((0, 0), (1, 1), (2, 1), (3, 2)):
            self.left([("back", 0), ("mark", 2), ("num", 2, 3, 3, way), ("back", 0)], 1,
                      [("back", 0), ("num", 2, 3, 3, expected), ("back", 0)])
            self.left([("back", 0), ("mark", 2), ("copy", 1, 3, 2, way), ("back", 0)], 1,
                      [("back", 0), ("copy", 1, 3, 2, expected), ("back", 0)])
            self.left([("back", 0), ("look", 2, 2), ("op", 0, "/", 2, 3, 2, way), ("back", 0)], 1,
                      [("back", 0), ("op", 0, "/", 2, 3, 2, expected), ("back", 0)])
            self.left([("out", 2, way), ("look", 2, 2), ("back", 2), ("back", 3)], 1,
                      [("out", 2, expected), ("back", 2), ("back", 3)])
            self.left([("fork", 3, way, 2), ("look", 2, 2), ("back", 2), ("back", 3)], 1,
                      [("fork", 3, expected, 1), ("back", 2), ("back", 3)])
            self.left([("fork", 3, 3, way), ("look", 2, 2), ("back", 2), ("back", 3)], 1,
                      [("fork", 3, 2, expected), ("back", 2), ("back", 3)])
            self.left([("look", 2, way), ("look", 2, 2), ("back", 2), ("back", 3)], 1,
                      [("look", 2, expected), ("back", 2), ("back", 3)])
            self.left([("mark", way), ("look", 2, 2), ("back", 2), ("back", 3)], 1,
                      [("mark", expected), ("back", 2), ("back", 3)])

    def test_one_that_another_look_goes_on_to(self):
        self.left([("look", 0, 1), ("look", 1, 2), ("back", 0)], 1, [("look", 0, 1), ("back", 0)])
        self.left([("look", 0, 1), ("look", 1, 2), ("back", 0)], 0, [("look", 1, 1), ("back", 0)])
        self.left([("mark", 1), ("look", 1, 2), ("mark", 3), ("mark", 1)], 1, [("mark", 1), ("mark", 2), ("mark", 1)])

    def test_one_that_nothing_goes_on_to(self):
        self.left([("look", 0, 2), ("mark", 2), ("back", 0)], 1, [("look", 0, 1), ("back", 0)])


class Thin(Case):
    def test_nothing_to_leave_out(self):
        self.thinned([("back", 0)], 1, [("back", 0)])
        self.thinned([("back", 0)], 3000, [("back", 0)])
        self.thinned([("mark", 0)], 1, [("mark", 0)])

    def test_to_the_delay_itself(self):
        self.assertEqual(delay(SHORT), 2)
        self.thinned(SHORT, 2, [("back", 0)])
        self.assertEqual(delay(ROUND), 3)
        self.thinned(ROUND, 3, ROUND)

    def test_to_one_less(self):
        # What would be left without the look has a delay of 1, but the code itself is asked.
        self.refused(SHORT, 1, 2)
        self.refused(ROUND, 2, 3)
        self.refused(TWICE, 3, 4)

    def test_to_a_great_number(self):
        self.thinned(SHORT, 3000, [("back", 0)])
        self.thinned(ROUND, 3000, ROUND)
        self.thinned(TWICE, 3000, [("out", 2, 1), ("out", 2, 2), ("out", 2, 3), ("out", 0, 4), ("back", 2)])

    def test_code_whose_delay_is_greater(self):
        self.refused(ROUND, 1, 3)
        self.refused(COUNT_DOWN, 1, delay(COUNT_DOWN))

    def test_code_that_has_no_delay(self):
        for number in (1, 5, 3000):
            self.refused(NO_DELAY, number, None)
            self.refused([("look", 0, 0)], number, None)
            # The delay of places to which nothing leads counts too.
            self.refused([("back", 0), ("look", 1, 1)], number, None)

    def test_a_number_between(self):
        # Without the look harm of box 0 lasts from the first row to the last.
        code = [("num", 2, 1, 1, 1), ("look", 0, 2), ("out", 1, 3), ("out", 1, 4), ("back", 0)]
        self.assertEqual(delay(code), 3)
        self.thinned(code, 3, code)
        self.thinned(code, 4, [("num", 2, 1, 1, 1), ("out", 1, 2), ("out", 1, 3), ("back", 0)])
        self.thinned(code, 5, [("num", 2, 1, 1, 1), ("out", 1, 2), ("out", 1, 3), ("back", 0)])

    def test_the_first_of_two_goes(self):
        # Either look can go, but not both; the one that is come to first goes.
        code = [("mark", 1), ("look", 0, 2), ("look", 0, 3), ("fork", 0, 0, 4), ("back", 0)]
        self.assertEqual(delay(code), 4)
        self.thinned(code, 4, [("mark", 1), ("look", 0, 2), ("fork", 0, 0, 3), ("back", 0)])
        code = [("look", 0, 1), ("look", 1, 2), ("mark", 3), ("mark", 4), ("fork", 0, 0, 5), ("back", 1)]
        self.thinned(code, delay(code), [("look", 0, 1), ("look", 1, 2), ("mark", 3), ("fork", 0, 0, 4), ("back", 1)])

    def test_what_moves_into_the_place_of_one_that_went_is_asked_next(self):
        self.thinned([("look", 0, 1), ("look", 0, 2), ("look", 0, 3), ("look", 0, 4), ("back", 0)], 5, [("back", 0)])
        self.assertEqual(second_thin([("look", 0, 1), ("look", 0, 2), ("back", 0)], 3), ([("back", 0)], 2))

    def test_one_going_through_is_not_enough(self):
        # Without place 2, box 0 is harmed from place 0 on for 5 steps; only 4 when the look at box 3 went.
        self.assertEqual(delay(TWICE), 4)
        self.assertEqual(second_delay(second_without(TWICE, 2)), 5)
        self.thinned(TWICE, 4, [("out", 2, 1), ("out", 2, 2), ("out", 2, 3), ("out", 0, 4), ("back", 2)])

    def test_one_that_can_be_left_out_only_when_another_went(self):
        code = [("look", 0, 2), ("mark", 2), ("back", 0)]
        self.assertIs(can_go(code, 0), False)
        self.thinned(code, 2, [("back", 0)])
        code = [("mark", 3), ("look", 0, 2), ("look", 1, 3), ("back", 0)]
        self.thinned(code, 3, [("back", 0)])

    def test_many_goings_through(self):
        # Each look skips the one behind it, and can go when that went: one in each going through.
        code = [("look", 0, place + 2) for place in range(20)] + [("look", 0, 21), ("back", 0)]
        self.thinned(code, 3000, [("back", 0)])
        self.assertEqual(second_thin(code, 3000), ([("back", 0)], 22))

    def test_one_that_cannot_go_stays(self):
        code = [("look", 0, 2), ("back", 1), ("back", 0)]
        self.thinned(code, 3000, code)

    def test_hardened_code(self):
        self.assertEqual(delay(COUNT_DOWN), 7)
        # Each round sends box 0, so that neither its look nor the mark is needed; that of box 1 is.
        expected = [("num", 0, 1, 1, 1), ("num", 1, 1, 1, 2), ("look", 1, 3), ("fork", 0, 4, 7), ("out", 0, 5),
                    ("op", 0, "-", 0, 0, 1, 6), ("op", 1, "-", 0, 0, 1, 2), ("back", 0)]
        self.thinned(COUNT_DOWN, 7, expected)
        self.thinned(COUNT_DOWN, 3000, expected)


class Need(Case):
    def test_of_a_look(self):
        code = [("look", 0, 1), ("out", 1, 2), ("back", 0)]
        self.assertEqual(delay(code), 2)
        found = self.needed(code, 0, 1, True)
        self.assertIn(found, ([(0, (0, 0)), (1, (0, 0))], [(0, (1, 0)), (1, (1, 0))]))
        self.needed(code, 0, 2, False)
        self.needed(code, 0, 3, False)
        self.needed(code, 0, 3000, False)

    def test_of_a_mark(self):
        code = [("mark", 1), ("num", 2, 0, 1, 2), ("back", 0)]
        self.assertEqual(self.needed(code, 0, 1, True), [(0, "mark"), (1, "mark")])
        self.needed(code, 0, 2, False)

    def test_at_the_delay_one_less_and_one_more(self):
        # Of the code 3, without the look 4.
        code = [("num", 2, 1, 1, 1), ("look", 0, 2), ("out", 1, 3), ("out", 1, 4), ("back", 0)]
        self.assertEqual(delay(code), 3)
        self.needed(code, 1, 1, True)
        self.needed(code, 1, 2, True)
        found = self.needed(code, 1, 3, True)
        self.assertIn(found, [[(place, (side, 0)) for place in range(4)] for side in (0, 1)])
        self.needed(code, 1, 4, False)

    def test_where_harm_goes_round_without_an_end(self):
        for number in (1, 2, 3, 4, 5, 50, 2999, 3000):
            found = self.needed(ROUND, 0, number, True)
            if number > 10:
                self.assertEqual({thing[1] for place, thing in found}, {0})
                self.assertLess(len(set(found)), len(found))
            found = self.needed(ROUND, 1, number, True)
            if number > 10:
                self.assertEqual({thing for place, thing in found}, {"mark"})

    def test_where_some_harm_goes_round_and_other_lasts_long(self):
        # Behind the fork, which without the mark may go round, box 1 is harmed for six steps.
        code = [("look", 0, 1), ("mark", 2), ("fork", 0, 0, 3), ("num", 2, 2, 1, 4), ("num", 2, 2, 1, 5),
                ("num", 2, 2, 1, 6), ("num", 2, 2, 1, 7), ("num", 2, 2, 1, 8), ("back", 0)]
        for number in range(1, 30):
            self.needed(code, 0, number, True)
            self.needed(code, 1, number, True)

    def test_of_code_that_has_no_delay(self):
        for number in (1, 2, 3, 100):
            self.needed(NO_DELAY, 0, number, True)

    def test_of_one_that_is_not_needed(self):
        self.needed(SHORT, 0, 1, False)
        self.needed(SHORT, 0, 2, False)
        self.needed(TWICE, 3, 4, False)
        self.needed(TWICE, 3, 3, False)
        self.needed(TWICE, 3, 2, True)


class Size(Case):
    def test_100_rows(self):
        code = [("look", k % 8, k + 1) if k % 2 else
                ("op", k // 2 % 2, SIGNS[k % 9], k % 8, k * 3 % 8, k * 5 % 8, k + 1) for k in range(99)] + [("back", 0)]
        self.assertEqual(len(code), 100)
        found = delay(code)
        for number in (found, found + 7, 3000):
            self.thinned(code, number, thin(code, number))
        self.assertFalse([row for row in thin(code, 3000) if row[0] == "look"])
        self.refused(code, found - 1, found)

    def test_100_rows_that_skip_one_another(self):
        code = [("look", k % 8, k + 2) for k in range(98)] + [("mark", 99), ("back", 0)]
        self.assertEqual(thin(code, 3000), [("back", 0)])

    def test_texts_of_12_statements(self):
        names = "abcdefgh"
        text = "in " + " ".join(names) + "\n" + "".join(f"while {names[k % 8]} {{\n" for k in range(12))
        code = harden(flat(read(text + "}\n" * 12 + "back a")))
        # 12 meets with all eight boxes, and the back.
        self.assertEqual(len(code), 12 * 10 + 1)
        found = thin(code, 3000)
        self.thinned(code, 3000, found)
        # The innermost goes round by itself, so that all that is looked at there is needed.
        self.assertEqual([row[:-1] for row in found if row[0] != "fork"][-10:],
                         [("look", box) for box in range(8)] + [("mark",), ("back",)])
        self.assertEqual(len(self.needed(code, 110, 3000, True)), 3001)

    def test_a_loop_round_ifs(self):
        text = "in a b c\nwhile a {\n" + "if b {\nc = a\n}\n" * 5 + "a = b\n}\nback c"
        code = harden(flat(read(text)))
        self.thinned(code, 3000, thin(code, 3000))
        self.thinned(code, delay(code), thin(code, delay(code)))
        self.assertLess(len(thin(code, 3000)), len(thin(code, delay(code))))


class NothingIsChanged(Case):
    def test_what_is_done_to_what_was_given(self):
        for code in SAMPLES:
            first = thin(code, 3000)
            kept = list(first)
            first.append(("back", 1))
            first[0] = ("back", 2)
            self.assertEqual(thin(code, 3000), kept)
            for place in range(len(code)):
                if can_go(code, place):
                    for ask in (lambda: without(code, place), lambda: need(code, place, 1)):
                        first = ask()
                        if first is not None:
                            kept = list(first)
                            first.reverse()
                            first.append(("back", 1))
                            self.assertEqual(ask(), kept)

    def test_what_is_done_later_to_what_was_handed_in(self):
        code = list(ROUND)
        found = [thin(code, 3), without(code, 0), need(code, 0, 5)]
        kept = copy.deepcopy(found)
        code[3] = ("back", 1)
        code.append(("back", 1))
        self.assertEqual(found, kept)
        self.assertEqual(thin(list(ROUND), 3), ROUND)


def made_row(chance, places, boxes, place):
    """A row that goes mostly ahead, so that many codes have a delay, and is often a look or a mark."""
    box = [chance.randrange(boxes) for k in range(3)]
    step = [1, 1, 1, 2, 3]
    one, other = (chance.randrange(places) if chance.random() < 0.08 else min(place + chance.choice(step), places - 1)
                  for k in range(2))
    word = chance.choice(("num", "copy", "op", "out", "fork", "look", "look", "look", "mark", "mark"))
    side = chance.choice((0, 1, 2))
    if place == places - 1:
        return ("back", box[0])
    if word == "num":
        return ("num", side, box[0], chance.randrange(9), one)
    if word == "copy":
        return ("copy", side, box[0], box[1], one)
    if word == "op":
        return ("op", side, chance.choice(SIGNS), box[0], box[1], box[2], one)
    if word == "fork":
        return ("fork", box[0], one, other)
    return ("mark", one) if word == "mark" else (word, box[0], one)


class MadeCodes(Case):
    def made(self, chance):
        places = chance.randint(1, 12)
        boxes = chance.choice((1, 2, 3, 8))
        return [made_row(chance, places, boxes, place) for place in range(places)]

    def test_thin_held_against_a_second_reckoning(self):
        chance = random.Random(20)
        refused, times = 0, []
        for k in range(600):
            code = self.made(chance)
            own = second_delay(code)
            if own is None:
                refused += 1
                self.refused(code, chance.choice((1, 7, 3000)), None)
                continue
            if own > 1:
                self.refused(code, own - 1, own)
            for number in (own, own + chance.randint(1, 4), 3000):
                expected, many = second_thin(code, number)
                times.append(many)
                self.thinned(code, number, expected)
        self.assertGreater(refused, 60)
        self.assertGreater(len([many for many in times if many > 2]), 20)

    def test_can_go_without_and_need_held_against_a_second_reckoning(self):
        chance = random.Random(21)
        there = []
        for k in range(700):
            code = self.made(chance)
            for place in range(len(code)):
                self.assertIs(can_go(code, place), second_can_go(code, place))
                if second_can_go(code, place):
                    self.left(code, place, second_without(code, place))
                    graph = second_graph(second_without(code, place))
                    for number in (1, chance.randint(2, 6), chance.choice((30, 400))):
                        there.append(longest_up_to(graph, number + 1) > number)
                        self.needed(code, place, number, there[-1])
        self.assertGreater(there.count(True), 300)
        self.assertGreater(there.count(False), 300)


if __name__ == "__main__":
    unittest.main()
