import copy
import random
import unittest

from turnguard.codes import fits
from turnguard.flat import flat
from turnguard.flows import gives, live, meets, reads, ways
from turnguard.texts import read

SIGNS = "+ - * / < = & | ^".split(" ")

# Counts box 0 down, sending it each round.
COUNT_DOWN = [("num", 2, 1, 1, 1), ("fork", 0, 2, 4), ("out", 0, 3), ("op", 2, "-", 0, 0, 1, 1), ("back", 0)]
# All forms, deeds of each side, a fork with both places alike, and places to which nothing leads.
MANY_FORMS = [
    ("num", 0, 1, 5, 1), ("num", 1, 1, 5, 2), ("copy", 2, 2, 0, 3), ("look", 2, 4), ("mark", 5),
    ("op", 0, "+", 3, 2, 1, 6), ("op", 1, "+", 3, 2, 1, 7), ("fork", 3, 8, 8), ("out", 3, 9), ("fork", 0, 0, 10),
    ("back", 3), ("copy", 1, 4, 5, 11), ("op", 2, "*", 6, 6, 7, 10),
]
SAMPLES = (COUNT_DOWN, MANY_FORMS, [("back", 0)], [("mark", 0)], [("fork", 3, 0, 0)])


def both(*boxes):
    """The spots of boxes on both sides."""
    return [(side, box) for side in (0, 1) for box in boxes]


def as_stands(rows):
    """Rows told without their Q, each on to the one behind it, and a back."""
    return [row + (place + 1,) for place, row in enumerate(rows)]


def expected_ways(row):
    if row[0] == "back":
        return []
    return [row[2], row[3]] if row[0] == "fork" else [row[len(row) - 1]]


def expected_spots(row):
    """What a row reads and gives, as sets."""
    word = row[0]
    if word == "mark":
        return set(), set()
    if word in ("out", "fork", "look", "back"):
        return {(0, row[1]), (1, row[1])}, set()
    sides = {0: (0,), 1: (1,), 2: (0, 1)}[row[1]]
    taken = {"num": (), "copy": row[3:4], "op": row[4:6]}[word]
    given = row[3] if word == "op" else row[2]
    return {(side, box) for side in sides for box in taken}, {(side, given) for side in sides}


def is_live(code, place, spot):
    """Whether a spot is live, by going on from the place along all ways."""
    coming = [place]
    seen = set()
    while coming:
        place = coming.pop()
        if place in seen:
            continue
        seen.add(place)
        taken, given = expected_spots(code[place])
        if spot in taken:
            return True
        if spot not in given:
            coming.extend(expected_ways(code[place]))
    return False


def expected_live(code):
    return [[spot for spot in both(*range(8)) if is_live(code, place, spot)] for place in range(len(code))]


def expected_meets(code):
    led = [0] + [way for row in code for way in expected_ways(row)]
    return [place for place in range(len(code)) if led.count(place) >= 2]


class Ways(unittest.TestCase):
    def test_each_form(self):
        far = [("back", 0)] * 9
        for row, expected in ((("num", 2, 1, 6, 4), [4]), (("copy", 1, 2, 6, 4), [4]),
                              (("op", 0, "+", 1, 2, 3, 4), [4]), (("out", 1, 4), [4]), (("fork", 1, 4, 5), [4, 5]),
                              (("fork", 1, 5, 4), [5, 4]), (("look", 1, 4), [4]), (("mark", 4), [4]),
                              (("back", 1), [])):
            self.assertEqual(ways([row] + far), [expected] + [[]] * 9)
            self.assertEqual(ways(far + [row]), [[]] * 9 + [expected])

    def test_a_fork_with_both_places_alike(self):
        self.assertEqual(ways([("fork", 0, 1, 1), ("back", 0)]), [[1, 1], []])

    def test_a_row_that_goes_on_to_itself(self):
        for row in (("num", 2, 0, 5, 0), ("copy", 0, 0, 1, 0), ("op", 1, "+", 1, 1, 1, 0), ("out", 1, 0),
                    ("look", 1, 0), ("mark", 0)):
            self.assertEqual(ways([row]), [[0]])
        self.assertEqual(ways([("fork", 0, 0, 0)]), [[0, 0]])
        self.assertEqual(ways([("fork", 0, 0, 1), ("fork", 0, 0, 1)]), [[0, 1], [0, 1]])

    def test_whole_codes(self):
        self.assertEqual(ways(COUNT_DOWN), [[1], [2, 4], [3], [1], []])
        self.assertEqual(ways(MANY_FORMS), [[1], [2], [3], [4], [5], [6], [7], [8, 8], [9], [0, 10], [], [11], [10]])

    def test_a_list_of_lists(self):
        for found in (ways(COUNT_DOWN), ways([("back", 0)])):
            self.assertIs(type(found), list)
            self.assertTrue(all(type(some) is list for some in found))


class ReadsAndGives(unittest.TestCase):
    def told(self, row, taken, given):
        self.assertEqual(reads(row), taken, row)
        self.assertEqual(gives(row), given, row)
        self.assertIs(type(reads(row)), list)
        self.assertIs(type(gives(row)), list)
        self.assertTrue(all(type(spot) is tuple for spot in reads(row) + gives(row)))

    def test_rows_that_are_no_deeds(self):
        for box in range(8):
            self.told(("out", box, 2), [(0, box), (1, box)], [])
            self.told(("fork", box, 2, 1), [(0, box), (1, box)], [])
            self.told(("look", box, 2), [(0, box), (1, box)], [])
            self.told(("back", box), [(0, box), (1, box)], [])
        for place in (0, 1, 2, 3):
            self.told(("mark", place), [], [])

    def test_num(self):
        for number in (0, 1, 2, 3):
            self.told(("num", 0, 4, number, 0), [], [(0, 4)])
            self.told(("num", 1, 4, number, 1), [], [(1, 4)])
            self.told(("num", 2, 4, number, 2), [], [(0, 4), (1, 4)])

    def test_copy(self):
        self.told(("copy", 0, 4, 5, 0), [(0, 5)], [(0, 4)])
        self.told(("copy", 1, 4, 5, 1), [(1, 5)], [(1, 4)])
        self.told(("copy", 2, 4, 5, 2), [(0, 5), (1, 5)], [(0, 4), (1, 4)])
        self.told(("copy", 2, 4, 4, 2), [(0, 4), (1, 4)], [(0, 4), (1, 4)])
        self.told(("copy", 1, 0, 0, 2), [(1, 0)], [(1, 0)])

    def test_op(self):
        for sign in SIGNS:
            self.told(("op", 0, sign, 4, 5, 6, 0), [(0, 5), (0, 6)], [(0, 4)])
            self.told(("op", 1, sign, 4, 5, 6, 1), [(1, 5), (1, 6)], [(1, 4)])
            self.told(("op", 2, sign, 4, 5, 6, 2), [(0, 5), (0, 6), (1, 5), (1, 6)], [(0, 4), (1, 4)])

    def test_boxes_of_an_op_are_sorted(self):
        self.told(("op", 0, "-", 4, 6, 5, 0), [(0, 5), (0, 6)], [(0, 4)])
        self.told(("op", 2, "-", 0, 7, 1, 0), [(0, 1), (0, 7), (1, 1), (1, 7)], [(0, 0), (1, 0)])

    def test_an_op_with_both_boxes_alike(self):
        self.told(("op", 0, "+", 4, 5, 5, 0), [(0, 5)], [(0, 4)])
        self.told(("op", 1, "+", 4, 5, 5, 0), [(1, 5)], [(1, 4)])
        self.told(("op", 2, "+", 4, 5, 5, 0), [(0, 5), (1, 5)], [(0, 4), (1, 4)])

    def test_an_op_that_gives_what_it_reads(self):
        self.told(("op", 2, "+", 5, 5, 6, 0), [(0, 5), (0, 6), (1, 5), (1, 6)], [(0, 5), (1, 5)])
        self.told(("op", 2, "+", 6, 5, 6, 0), [(0, 5), (0, 6), (1, 5), (1, 6)], [(0, 6), (1, 6)])
        self.told(("op", 1, "+", 5, 5, 5, 0), [(1, 5)], [(1, 5)])


class Live(unittest.TestCase):
    def lively(self, code, expected):
        self.assertTrue(fits(code))
        self.assertEqual(live(code), expected)
        self.assertEqual(expected_live(code), expected)

    def test_one_row(self):
        self.lively([("back", 3)], [both(3)])
        self.lively([("mark", 0)], [[]])
        self.lively([("num", 2, 0, 1, 0)], [[]])
        self.lively([("out", 7, 0)], [both(7)])
        self.lively([("look", 7, 0)], [both(7)])
        self.lively([("fork", 7, 0, 0)], [both(7)])
        self.lively([("copy", 0, 7, 6, 0)], [[(0, 6)]])
        self.lively([("op", 1, "+", 7, 6, 5, 0)], [[(1, 5), (1, 6)]])

    def test_straight_code(self):
        self.lively([("num", 2, 1, 5, 1), ("op", 2, "+", 2, 0, 1, 2), ("out", 2, 3), ("back", 0)],
                    [both(0), both(0, 1), both(0, 2), both(0)])

    def test_a_row_that_reads_and_gives_the_same_box(self):
        self.lively([("copy", 2, 0, 0, 1), ("back", 0)], [both(0), both(0)])
        self.lively([("op", 2, "+", 0, 0, 1, 1), ("back", 0)], [both(0, 1), both(0)])
        self.lively([("op", 2, "+", 0, 0, 0, 1), ("back", 1)], [both(0, 1), both(1)])
        self.lively([("op", 0, "+", 0, 0, 0, 1), ("num", 2, 0, 1, 2), ("back", 0)], [[(0, 0)], [], both(0)])

    def test_given_on_one_side_only(self):
        self.lively([("num", 0, 0, 5, 1), ("back", 0)], [[(1, 0)], both(0)])
        self.lively([("num", 1, 0, 5, 1), ("back", 0)], [[(0, 0)], both(0)])
        self.lively([("num", 2, 0, 5, 1), ("back", 0)], [[], both(0)])

    def test_read_on_one_side_only(self):
        self.lively([("copy", 0, 1, 0, 1), ("num", 2, 0, 1, 2), ("back", 0)], [[(0, 0)], [], both(0)])
        self.lively([("copy", 1, 1, 0, 1), ("num", 2, 0, 1, 2), ("back", 0)], [[(1, 0)], [], both(0)])

    def test_by_either_way_of_a_fork(self):
        self.lively([("fork", 0, 1, 2), ("back", 1), ("back", 2)], [both(0, 1, 2), both(1), both(2)])
        self.lively([("fork", 0, 1, 2), ("num", 2, 2, 1, 2), ("back", 2)], [both(0, 2), [], both(2)])
        self.lively([("fork", 0, 2, 1), ("num", 2, 2, 1, 2), ("back", 2)], [both(0, 2), [], both(2)])

    def test_code_that_goes_round(self):
        self.lively(COUNT_DOWN, [both(0), both(0, 1), both(0, 1), both(0, 1), both(0)])
        self.lively([("out", 1, 1), ("out", 0, 2), ("num", 2, 1, 3, 0)], [both(0, 1), both(0), both(0)])
        self.lively([("num", 2, 1, 3, 1), ("mark", 2), ("copy", 2, 0, 1, 0)], [[], both(1), both(1)])

    def test_far_round_against_the_order_of_the_places(self):
        code = [("mark", 9)] + [("mark", k - 1) for k in range(1, 10)]
        self.lively(code, [[]] * 10)
        for at in range(10):
            self.lively(code[:at] + [("out", 5, code[at][1])] + code[at + 1:], [both(5)] * 10)

    def test_places_to_which_nothing_leads(self):
        self.lively([("back", 0), ("out", 1, 0), ("num", 2, 0, 1, 0), ("mark", 3), ("copy", 1, 1, 2, 1)],
                    [both(0), both(0, 1), [], [], [(0, 0), (0, 1), (1, 0), (1, 2)]])

    def test_what_is_read_only_where_nothing_leads(self):
        self.lively([("num", 2, 0, 1, 2), ("out", 5, 2), ("back", 0)], [[], both(0, 5), both(0)])

    def test_all_boxes_of_both_sides(self):
        code = as_stands([("out", box) for box in (3, 1, 7, 0, 2, 6, 4)]) + [("back", 5)]
        self.lively(code, [both(*sorted([3, 1, 7, 0, 2, 6, 4, 5][k:])) for k in range(8)])

    def test_many_forms(self):
        self.lively(MANY_FORMS, expected_live(MANY_FORMS))
        found = live(MANY_FORMS)
        self.assertEqual(found[0], both(0))
        self.assertEqual(found[1], [(0, 0), (0, 1), (1, 0)])
        self.assertEqual(found[6], [(0, 0), (0, 3), (1, 0), (1, 1), (1, 2)])
        self.assertEqual(found[11], [(1, 5)])
        self.assertEqual(found[12], both(3, 6, 7))

    def test_kinds(self):
        for code in SAMPLES:
            found = live(code)
            self.assertIs(type(found), list)
            self.assertTrue(all(type(some) is list for some in found))
            self.assertTrue(all(type(spot) is tuple for some in found for spot in some))


class Meets(unittest.TestCase):
    def met(self, code, expected):
        self.assertTrue(fits(code))
        self.assertEqual(meets(code), expected)
        self.assertEqual(expected_meets(code), expected)

    def test_the_begin_is_one_way(self):
        self.met([("back", 0)], [])
        self.met([("out", 0, 0)], [0])
        self.met([("out", 0, 1), ("out", 0, 1)], [1])
        self.met([("out", 0, 1), ("out", 0, 0)], [0])
        self.met([("out", 0, 1), ("back", 0), ("mark", 0)], [0])
        self.met([("back", 0), ("out", 0, 0)], [0])

    def test_one_way_is_no_meet(self):
        self.met([("num", 2, 0, 1, 1), ("out", 0, 2), ("back", 0)], [])
        self.met([("fork", 0, 1, 2), ("back", 0), ("back", 1)], [])

    def test_a_fork_with_both_places_alike(self):
        self.met([("fork", 0, 1, 1), ("back", 0)], [1])
        self.met([("fork", 0, 0, 0)], [0])
        self.met([("back", 0), ("back", 0), ("fork", 0, 1, 1)], [1])

    def test_two_rows(self):
        self.met([("fork", 0, 1, 2), ("out", 0, 3), ("out", 0, 3), ("back", 0)], [3])
        self.met([("fork", 0, 1, 2), ("out", 0, 2), ("back", 0)], [2])
        self.met(COUNT_DOWN, [1])

    def test_only_rows_that_are_never_come_to(self):
        self.met([("back", 0), ("back", 1), ("out", 0, 1), ("look", 0, 1)], [1])
        self.met([("back", 0), ("back", 1), ("out", 0, 1)], [])
        self.met([("back", 0), ("mark", 1), ("mark", 1)], [1])
        self.met([("back", 0), ("fork", 0, 1, 2), ("back", 0)], [])
        self.met([("back", 0), ("fork", 0, 1, 1), ("back", 0)], [1])

    def test_one_row_that_is_come_to_and_one_that_is_not(self):
        self.met([("out", 0, 2), ("mark", 2), ("back", 0)], [2])

    def test_sorted(self):
        self.met([("fork", 0, 3, 2), ("fork", 0, 3, 2), ("fork", 0, 1, 0), ("fork", 0, 1, 0)], [0, 1, 2, 3])
        self.met(MANY_FORMS, [0, 8, 10])

    def test_kinds(self):
        for code in SAMPLES:
            self.assertIs(type(meets(code)), list)
            self.assertTrue(all(type(place) is int for place in meets(code)))


class Size(unittest.TestCase):
    def test_200_rows_and_somewhat_more(self):
        for many in (200, 201, 1300):
            code = as_stands([("op", 2, "+", 0, 0, 1)] * (many - 1)) + [("back", 0)]
            self.assertEqual(ways(code), [[k + 1] for k in range(many - 1)] + [[]])
            self.assertEqual(live(code), [both(0, 1)] * (many - 1) + [both(0)])
            self.assertEqual(meets(code), [])

    def test_200_forks(self):
        code = [("fork", k % 8, (k * 7) % 200, (k * 3) % 200) for k in range(199)] + [("back", 0)]
        self.assertEqual(live(code), expected_live(code))
        self.assertEqual(meets(code), expected_meets(code))


class NothingIsChanged(unittest.TestCase):
    def test_what_is_handed_in(self):
        for code in SAMPLES:
            kept = copy.deepcopy(code)
            for ask in (ways, live, meets):
                ask(code)
                self.assertEqual(code, kept)

    def test_what_is_done_to_lists_that_were_given(self):
        for code in SAMPLES:
            for ask in (ways, live):
                first = ask(code)
                kept = copy.deepcopy(first)
                for some in first:
                    some.append((9, 9))
                    some.reverse()
                first.append([1])
                self.assertEqual(ask(code), kept)
            first = meets(code)
            kept = list(first)
            first.insert(0, 99)
            self.assertEqual(meets(code), kept)
            for row in code:
                for ask in (reads, gives):
                    first = ask(row)
                    kept = list(first)
                    first.append((9, 9))
                    self.assertEqual(ask(row), kept)

    def test_lists_within_are_each_their_own(self):
        for ask in (ways, live):
            for code in SAMPLES + ([("mark", 0)] * 3, [("out", 1, 0)] * 3):
                found = ask(code)
                self.assertEqual(len({id(some) for some in found}), len(code))

    def test_what_is_done_later_to_what_was_handed_in(self):
        code = [("fork", 0, 1, 1), ("back", 0)]
        found = [ways(code), live(code), meets(code)]
        code[0] = ("num", 2, 0, 5, 0)
        self.assertEqual(found, [[[1, 1], []], [both(0), both(0)], [1]])
        self.assertEqual([ways(code), live(code), meets(code)], [[[0], []], [[], both(0)], [0]])


def made_row(chance, places, boxes):
    box = [chance.randrange(boxes) for k in range(3)]
    one, other = chance.randrange(places), chance.randrange(places)
    word = chance.choice(("num", "copy", "op", "op", "out", "fork", "fork", "look", "mark", "back"))
    side = chance.choice((0, 1, 2))
    if word == "num":
        return ("num", side, box[0], chance.randrange(9), one)
    if word == "copy":
        return ("copy", side, box[0], box[1], one)
    if word == "op":
        return ("op", side, chance.choice(SIGNS), box[0], box[1], box[2], one)
    if word == "fork":
        return ("fork", box[0], one, other)
    if word == "mark":
        return ("mark", one)
    return ("back", box[0]) if word == "back" else (word, box[0], one)


class MadeCodes(unittest.TestCase):
    def test_held_against_a_second_reckoning(self):
        chance = random.Random(14)
        for k in range(1500):
            places = chance.randint(1, 14)
            boxes = chance.choice((1, 2, 3, 8))
            code = [made_row(chance, places, boxes) for place in range(places)]
            self.assertTrue(fits(code))
            self.assertEqual(ways(code), [expected_ways(row) for row in code], code)
            for row in code:
                taken, given = expected_spots(row)
                self.assertEqual(reads(row), sorted(taken), row)
                self.assertEqual(gives(row), sorted(given), row)
            self.assertEqual(live(code), expected_live(code), code)
            self.assertEqual(meets(code), expected_meets(code), code)

    def test_plain_code_of_programs(self):
        code = flat(read("in a b\nwhile a {\nif b {\nout a\n} else {\nb = a\n}\na = a - b\n}\nout c\nback b"))
        self.assertEqual(meets(code), [0, 4])
        self.assertEqual(live(code), [both(0, 1, 2)] * 2 + [both(0, 1, 2), both(0, 2), both(0, 1, 2), both(1, 2),
                                                           both(1)])


if __name__ == "__main__":
    unittest.main()
