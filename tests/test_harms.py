import copy
import random
import unittest

from turnguard.codes import fits
from turnguard.flat import flat
from turnguard.harms import delay, delays, lasts, longest
from turnguard.texts import read

SIGNS = "+ - * / < = & | ^".split(" ")

# Counts box 0 down, sending it each round; box 1 is read in each, and never given again.
COUNT_DOWN = [("num", 2, 1, 1, 1), ("fork", 0, 2, 4), ("out", 0, 3), ("op", 2, "-", 0, 0, 1, 1), ("back", 0)]
# The same with looks at both boxes and a mark where ways meet.
LOOKED_AT = [("num", 2, 1, 1, 1), ("look", 0, 2), ("look", 1, 3), ("mark", 4), ("fork", 0, 5, 7), ("out", 0, 6),
             ("op", 2, "-", 0, 0, 1, 1), ("back", 0)]
STRAIGHT = [("num", 2, 1, 5, 1), ("op", 2, "+", 2, 0, 1, 2), ("out", 2, 3), ("back", 0)]
FORKED = [("fork", 0, 1, 4), ("num", 2, 1, 1, 2), ("copy", 2, 1, 1, 3), ("back", 1), ("back", 2)]
SAMPLES = (COUNT_DOWN, LOOKED_AT, STRAIGHT, FORKED, [("back", 0)], [("mark", 0)], [("num", 2, 0, 1, 0)])


def as_stands(rows):
    """Rows told without their Q, each on to the one behind it."""
    return [row + (place + 1,) for place, row in enumerate(rows)]


def ways_on(row):
    if row[0] == "back":
        return []
    return [row[2], row[3]] if row[0] == "fork" else [row[len(row) - 1]]


def spots_of(row):
    """What a row reads and gives, as sets."""
    word = row[0]
    if word == "mark":
        return set(), set()
    if word in ("out", "fork", "look", "back"):
        return {(0, row[1]), (1, row[1])}, set()
    sides = {0: (0,), 1: (1,), 2: (0, 1)}[row[1]]
    taken = {"num": (), "copy": row[3:4], "op": row[4:6]}[word]
    given = row[3] if word == "op" else row[2]
    return {(side, box) for side in sides for box in taken}, {(side, given) for side in sides}


def live_spots(code):
    """The live spots of each place, as sets that grow until nothing more comes to them."""
    found = [set() for row in code]
    grown = True
    while grown:
        grown = False
        for place, row in enumerate(code):
            taken, given = spots_of(row)
            behind = set().union(*[found[way] for way in ways_on(row)])
            now = taken | (behind - given)
            grown = grown or now != found[place]
            found[place] = now
    return found


def second_lasts(code, lively, harm):
    """As what a harm lasts, by the words of the document."""
    place, thing = harm
    row = code[place]
    if thing == "mark":
        if row[0] in ("mark", "out", "back"):
            return []
        return sorted({(way, "mark") for way in ways_on(row)})
    if row[0] in ("look", "out", "back") and thing[1] == row[1]:
        return []
    taken, given = spots_of(row)
    found = set()
    for way in ways_on(row):
        if thing not in given and thing in lively[way]:
            found.add((way, thing))
        if row[0] in ("num", "copy", "op") and thing in taken:
            other = (thing[0], row[3] if row[0] == "op" else row[2])
            if other in lively[way]:
                found.add((way, other))
    return sorted(found)


def second_graph(code):
    lively = live_spots(code)
    harms = [(place, thing) for place in range(len(code)) for thing in sorted(lively[place]) + ["mark"]]
    return {harm: second_lasts(code, lively, harm) for harm in harms}


def second_delays(code):
    """Delays by ways that grow by one harm each time; None where they still grow with more harms than there are."""
    graph = second_graph(code)
    found = {harm: 1 for harm in graph}
    growing = set(graph)
    for many in range(2, len(graph) + 2):
        growing = {harm for harm in graph if any(later in growing for later in graph[harm])}
        if not growing:
            return found
        for harm in growing:
            found[harm] = many
    return None


class Case(unittest.TestCase):
    def lasting(self, code, harm, expected):
        self.assertTrue(fits(code))
        found = lasts(code, harm)
        self.assertEqual(found, expected, (code, harm))
        self.assertIs(type(found), list)
        self.assertTrue(all(type(later) is tuple for later in found))
        self.assertEqual(second_lasts(code, live_spots(code), harm), expected)

    def right(self, code, expected):
        """The delay of code is as told; delays and longest go with it."""
        self.assertTrue(fits(code))
        self.assertEqual(delay(code), expected, code)
        self.assertEqual(delays(code), second_delays(code), code)
        way = longest(code)
        if expected is None:
            self.assertIsNone(delay(code))
            self.assertIsNone(delays(code))
            self.assertIsNone(way)
            return
        found = delays(code)
        self.assertIs(type(delay(code)), int)
        self.assertIs(type(found), dict)
        self.assertTrue(all(type(number) is int for number in found.values()))
        self.assertEqual(max(found.values()), expected)
        self.assertIs(type(way), list)
        self.assertEqual(len(way), expected)
        self.assertTrue(all(type(harm) is tuple and harm in found for harm in way))
        graph = second_graph(code)
        for one, other in zip(way, way[1:]):
            self.assertIn(other, graph[one])
            self.assertEqual(found[one], found[other] + 1)
        self.assertEqual(longest(code), way)


class MarksLast(Case):
    def test_by_each_form(self):
        for row, expected in ((("num", 2, 0, 5, 1), [(1, "mark")]), (("copy", 0, 0, 1, 1), [(1, "mark")]),
                              (("op", 1, "+", 0, 1, 2, 1), [(1, "mark")]), (("look", 0, 1), [(1, "mark")]),
                              (("fork", 0, 1, 2), [(1, "mark"), (2, "mark")]), (("mark", 1), []),
                              (("out", 0, 1), []), (("back", 0), [])):
            self.lasting([row, ("back", 0), ("back", 0)], (0, "mark"), expected)

    def test_by_places_not_by_the_rows_order(self):
        self.lasting([("fork", 0, 2, 1), ("back", 0), ("back", 0)], (0, "mark"), [(1, "mark"), (2, "mark")])
        self.lasting([("back", 0), ("fork", 0, 2, 0), ("back", 0)], (1, "mark"), [(0, "mark"), (2, "mark")])

    def test_a_fork_with_both_places_alike(self):
        self.lasting([("fork", 0, 1, 1), ("back", 0)], (0, "mark"), [(1, "mark")])

    def test_a_row_that_goes_on_to_itself(self):
        self.lasting([("num", 2, 0, 5, 0)], (0, "mark"), [(0, "mark")])
        self.lasting([("fork", 0, 0, 0)], (0, "mark"), [(0, "mark")])
        self.lasting([("mark", 0)], (0, "mark"), [])
        self.lasting([("out", 0, 0)], (0, "mark"), [])


class SpotsLast(Case):
    def test_at_a_look_out_or_back_of_its_box(self):
        for row in (("look", 0, 1), ("out", 0, 1), ("back", 0)):
            for side in (0, 1):
                self.lasting([row, ("back", 0)], (0, (side, 0)), [])

    def test_at_a_look_or_out_of_another_box(self):
        for word in ("look", "out"):
            for side in (0, 1):
                self.lasting([(word, 1, 1), ("back", 0)], (0, (side, 0)), [(1, (side, 0))])
                self.lasting([(word, 0, 1), ("back", 1)], (0, (side, 1)), [(1, (side, 1))])

    def test_a_box_is_not_a_side(self):
        for word in ("look", "out"):
            self.lasting([(word, 1, 1), ("back", 0)], (0, (1, 0)), [(1, (1, 0))])
            self.lasting([(word, 0, 1), ("back", 1)], (0, (0, 1)), [(1, (0, 1))])

    def test_at_a_mark(self):
        for side in (0, 1):
            self.lasting([("mark", 1), ("back", 0)], (0, (side, 0)), [(1, (side, 0))])

    def test_at_a_fork(self):
        for side in (0, 1):
            for box in (0, 1):
                spot = (side, box)
                self.lasting([("fork", box, 1, 2), ("back", box), ("back", box)], (0, spot), [(1, spot), (2, spot)])
                self.lasting([("fork", box, 2, 1), ("back", box), ("back", box)], (0, spot), [(1, spot), (2, spot)])
                self.lasting([("fork", 7, 1, 2), ("back", box), ("back", box)], (0, spot), [(1, spot), (2, spot)])
                self.lasting([("fork", box, 1, 2), ("back", 2), ("back", 3)], (0, spot), [])

    def test_at_a_fork_only_by_the_way_where_it_is_live(self):
        self.lasting([("fork", 0, 1, 2), ("back", 0), ("back", 1)], (0, (0, 0)), [(1, (0, 0))])
        self.lasting([("fork", 0, 1, 2), ("back", 0), ("back", 1)], (0, (0, 1)), [(2, (0, 1))])

    def test_a_fork_with_both_places_alike(self):
        self.lasting([("fork", 0, 1, 1), ("back", 0)], (0, (1, 0)), [(1, (1, 0))])
        self.lasting([("fork", 1, 1, 1), ("back", 0)], (0, (1, 0)), [(1, (1, 0))])
        self.lasting([("fork", 0, 0, 0)], (0, (0, 0)), [(0, (0, 0))])

    def test_num_of_another_box(self):
        for side in (0, 1, 2):
            for own in (0, 1):
                self.lasting([("num", side, 1, 5, 1), ("back", 0)], (0, (own, 0)), [(1, (own, 0))])

    def test_num_of_its_box_on_the_other_side(self):
        self.lasting([("num", 0, 0, 5, 1), ("back", 0)], (0, (1, 0)), [(1, (1, 0))])
        self.lasting([("num", 1, 0, 5, 1), ("back", 0)], (0, (0, 0)), [(1, (0, 0))])

    def test_a_deed_of_one_side(self):
        code = [("copy", 0, 1, 0, 1), ("op", 2, "+", 0, 0, 1, 2), ("back", 0)]
        self.lasting(code, (0, (0, 0)), [(1, (0, 0)), (1, (0, 1))])
        self.lasting(code, (0, (1, 0)), [(1, (1, 0))])
        self.lasting(code, (0, (1, 1)), [(1, (1, 1))])
        code = [("copy", 1, 1, 0, 1), ("op", 2, "+", 0, 0, 1, 2), ("back", 0)]
        self.lasting(code, (0, (1, 0)), [(1, (1, 0)), (1, (1, 1))])
        self.lasting(code, (0, (0, 0)), [(1, (0, 0))])
        self.lasting(code, (0, (0, 1)), [(1, (0, 1))])

    def test_a_deed_of_both_sides_harms_its_own_side(self):
        code = [("copy", 2, 1, 0, 1), ("op", 2, "+", 0, 0, 1, 2), ("back", 0)]
        for side in (0, 1):
            self.lasting(code, (0, (side, 0)), [(1, (side, 0)), (1, (side, 1))])

    def test_both_boxes_of_an_op(self):
        code = [("op", 2, "-", 2, 0, 1, 1), ("out", 0, 2), ("out", 1, 3), ("back", 2)]
        for side in (0, 1):
            self.lasting(code, (0, (side, 0)), [(1, (side, 0)), (1, (side, 2))])
            self.lasting(code, (0, (side, 1)), [(1, (side, 1)), (1, (side, 2))])

    def test_sorted_by_spots(self):
        code = [("op", 2, "-", 0, 5, 5, 1), ("out", 5, 2), ("back", 0)]
        self.lasting(code, (0, (0, 5)), [(1, (0, 0)), (1, (0, 5))])
        code = [("op", 2, "-", 5, 0, 0, 1), ("out", 5, 2), ("back", 0)]
        self.lasting(code, (0, (0, 0)), [(1, (0, 0)), (1, (0, 5))])

    def test_what_is_read_is_live_no_more(self):
        code = [("op", 2, "-", 2, 0, 1, 1), ("back", 2)]
        for side in (0, 1):
            for box in (0, 1):
                self.lasting(code, (0, (side, box)), [(1, (side, 2))])

    def test_what_is_given_is_not_live(self):
        code = [("op", 2, "-", 2, 0, 1, 1), ("back", 0)]
        for side in (0, 1):
            self.lasting(code, (0, (side, 0)), [(1, (side, 0))])
            self.lasting(code, (0, (side, 1)), [])

    def test_what_is_given_is_live_on_one_side_only(self):
        code = [("copy", 2, 1, 0, 1), ("num", 0, 1, 1, 2), ("back", 1)]
        self.lasting(code, (0, (0, 0)), [])
        self.lasting(code, (0, (1, 0)), [(1, (1, 1))])

    def test_a_deed_that_reads_and_gives_the_same_box(self):
        for side in (0, 1):
            self.lasting([("copy", 2, 0, 0, 1), ("back", 0)], (0, (side, 0)), [(1, (side, 0))])
            self.lasting([("op", 2, "+", 0, 0, 0, 1), ("back", 0)], (0, (side, 0)), [(1, (side, 0))])
            self.lasting([("op", 2, "+", 0, 0, 1, 1), ("out", 1, 2), ("back", 0)], (0, (side, 1)),
                         [(1, (side, 0)), (1, (side, 1))])
            self.lasting([("op", 2, "+", 0, 0, 1, 1), ("out", 1, 2), ("back", 0)], (0, (side, 0)), [(1, (side, 0))])
            self.lasting([("op", 2, "+", 0, 0, 0, 1), ("back", 1)], (0, (side, 0)), [])
            self.lasting([("op", side, "+", 0, 0, 0, 1), ("back", 0)], (0, (side, 0)), [(1, (side, 0))])
            self.lasting([("op", side, "+", 0, 0, 0, 1), ("back", 0)], (0, (1 - side, 0)), [(1, (1 - side, 0))])

    def test_a_row_that_goes_on_to_itself(self):
        self.lasting([("op", 2, "+", 0, 0, 1, 0)], (0, (0, 0)), [(0, (0, 0))])
        self.lasting([("op", 2, "+", 0, 0, 1, 0)], (0, (0, 1)), [(0, (0, 0)), (0, (0, 1))])
        self.lasting([("look", 0, 0)], (0, (0, 0)), [])

    def test_places_to_which_nothing_leads(self):
        code = [("back", 0), ("copy", 2, 0, 3, 0), ("fork", 4, 1, 0)]
        self.lasting(code, (1, (0, 3)), [(0, (0, 0))])
        self.lasting(code, (2, (1, 3)), [(1, (1, 3))])
        self.lasting(code, (2, (1, 4)), [])
        self.lasting(code, (2, (1, 0)), [(0, (1, 0))])
        self.lasting(code, (2, "mark"), [(0, "mark"), (1, "mark")])


class Delays(Case):
    def test_one_row(self):
        self.right([("back", 3)], 1)
        self.assertEqual(delays([("back", 3)]), {(0, (0, 3)): 1, (0, (1, 3)): 1, (0, "mark"): 1})
        self.right([("mark", 0)], 1)
        self.assertEqual(delays([("mark", 0)]), {(0, "mark"): 1})
        self.assertEqual(longest([("mark", 0)]), [(0, "mark")])
        self.right([("out", 0, 0)], 1)
        self.right([("look", 0, 0)], None)
        self.right([("fork", 0, 0, 0)], None)
        self.right([("num", 2, 0, 5, 0)], None)

    def test_straight_code(self):
        self.right(STRAIGHT, 4)
        found = delays(STRAIGHT)
        self.assertEqual(found, {
            (0, (0, 0)): 4, (0, (1, 0)): 4, (0, "mark"): 3,
            (1, (0, 0)): 3, (1, (1, 0)): 3, (1, (0, 1)): 2, (1, (1, 1)): 2, (1, "mark"): 2,
            (2, (0, 0)): 2, (2, (1, 0)): 2, (2, (0, 2)): 1, (2, (1, 2)): 1, (2, "mark"): 1,
            (3, (0, 0)): 1, (3, (1, 0)): 1, (3, "mark"): 1,
        })
        way = longest(STRAIGHT)
        self.assertIn(way, [[(place, (side, 0)) for place in range(4)] for side in (0, 1)])

    def test_code_with_a_fork(self):
        self.right(FORKED, 4)
        self.assertEqual(delays(FORKED), {
            (0, (0, 0)): 1, (0, (1, 0)): 1, (0, (0, 2)): 2, (0, (1, 2)): 2, (0, "mark"): 4,
            (1, "mark"): 3, (2, (0, 1)): 2, (2, (1, 1)): 2, (2, "mark"): 2,
            (3, (0, 1)): 1, (3, (1, 1)): 1, (3, "mark"): 1,
            (4, (0, 2)): 1, (4, (1, 2)): 1, (4, "mark"): 1,
        })
        self.assertEqual(longest(FORKED), [(place, "mark") for place in range(4)])

    def test_the_longer_way_of_a_fork_whichever_it_is(self):
        tail = [("mark", 2), ("mark", 3), ("mark", 4), ("back", 0)]
        self.right([("fork", 0, 1, 4)] + tail, 5)
        self.right([("fork", 0, 4, 1)] + tail, 5)
        self.right([("fork", 0, 4, 4)] + tail, 4)

    def test_harm_by_way_of_other_spots(self):
        code = as_stands([("copy", 2, k + 1, k) for k in range(7)]) + [("back", 7)]
        self.right(code, 8)
        self.assertEqual(delays(code)[(0, (1, 0))], 8)
        self.assertEqual(delays(code)[(0, (0, 0))], 8)
        self.assertEqual(lasts(code, (3, (0, 3))), [(4, (0, 4))])

    def test_harm_that_goes_round_without_an_end(self):
        self.right(COUNT_DOWN, None)
        self.right([("fork", 0, 0, 1), ("back", 0)], None)
        # Box 1 alone goes round.
        self.right([("out", 0, 1), ("look", 0, 2), ("fork", 0, 0, 3), ("out", 1, 3)], None)
        # The mark alone goes round.
        self.right([("look", 0, 1), ("fork", 0, 0, 2), ("back", 0)], None)
        # One side alone goes round.
        self.right([("op", 1, "+", 1, 1, 0, 1), ("out", 0, 0)], None)
        # From spot to spot and back.
        self.right([("copy", 2, 1, 0, 1), ("copy", 2, 0, 1, 2), ("mark", 0)], None)

    def test_rows_that_go_round_while_no_harm_lasts_all_the_way(self):
        self.right([("out", 0, 0)], 1)
        self.right([("mark", 0)], 1)
        self.right([("num", 2, 0, 5, 1), ("out", 0, 0)], 2)
        self.right([("look", 0, 1), ("mark", 0)], 2)
        self.assertEqual(delays([("look", 0, 1), ("mark", 0)]), {(0, (0, 0)): 1, (0, (1, 0)): 1, (0, "mark"): 2,
                                                                (1, (0, 0)): 2, (1, (1, 0)): 2, (1, "mark"): 1})
        self.right(LOOKED_AT, 6)
        self.right([("copy", 2, 1, 0, 1), ("copy", 2, 0, 1, 2), ("look", 0, 3), ("mark", 0)], 4)

    def test_only_marks(self):
        self.right([("num", 2, 0, 5, 1), ("num", 2, 0, 5, 2), ("mark", 0)], 3)
        self.assertEqual(delays([("num", 2, 0, 5, 1), ("num", 2, 0, 5, 2), ("mark", 0)]),
                         {(0, "mark"): 3, (1, "mark"): 2, (2, "mark"): 1})
        self.assertEqual(longest([("num", 2, 0, 5, 1), ("num", 2, 0, 5, 2), ("mark", 0)]),
                         [(0, "mark"), (1, "mark"), (2, "mark")])
        self.right([("num", 2, 0, 5, 0), ("mark", 0)], None)

    def test_places_to_which_nothing_leads(self):
        self.right([("back", 0), ("num", 2, 1, 1, 2), ("num", 2, 1, 1, 0)], 3)
        self.assertEqual(delays([("back", 0), ("num", 2, 1, 1, 2), ("num", 2, 1, 1, 0)]), {
            (0, (0, 0)): 1, (0, (1, 0)): 1, (0, "mark"): 1, (1, (0, 0)): 3, (1, (1, 0)): 3, (1, "mark"): 3,
            (2, (0, 0)): 2, (2, (1, 0)): 2, (2, "mark"): 2})
        self.right([("back", 0), ("look", 0, 1)], None)
        self.right([("back", 0), ("fork", 1, 1, 0)], None)
        self.right([("back", 0), ("mark", 1)], 1)

    def test_plain_code_of_programs(self):
        self.right(flat(read("in\nback a")), 1)
        self.right(flat(read("in a b\nif a {\nb = a\n} else {\nout b\n}\nc = a + b\nback c")), 4)
        self.right(flat(read("in a\nwhile a {\nout a\na = 0\n}\nback a")), 3)
        self.right(flat(read("in a\nwhile a {\na = 0\n}\nback a")), None)


class Size(Case):
    def test_200_rows_straight_and_somewhat_more(self):
        for many in (199, 200, 201, 1300):
            code = as_stands([("num", 2, 1, 5)] * (many - 1)) + [("back", 0)]
            self.assertEqual(delay(code), many)
            self.assertEqual(len(longest(code)), many)
            self.assertEqual(delays(code)[(0, "mark")], many)
            self.assertEqual(delays(code)[(0, (1, 0))], many)
            self.assertEqual(len(delays(code)), 3 * many)

    def test_200_rows_straight_with_all_boxes(self):
        code = as_stands([("op", 2, SIGNS[k % 9], k % 8, (k * 3 + 1) % 8, (k * 5 + 2) % 8) for k in range(192)]
                         + [("out", k) for k in range(7)]) + [("back", 7)]
        self.right(code, delay(code))
        self.assertGreater(delay(code), 192)

    def test_200_rows_with_many_forks(self):
        # Ways are beyond all counting here: each fork doubles them.
        code = [("fork", k % 8, k + 1, min(k + 2, 199)) for k in range(199)] + [("back", 0)]
        self.assertEqual(delay(code), 200)
        self.assertEqual(longest(code)[0][0], 0)
        self.right(code, 200)
        code = [("fork", k % 8, k + 1, min(k + 2, 199)) if k % 3 else
                ("op", 2, "+", k % 8, (k * 3 + 1) % 8, (k * 5 + 2) % 8, k + 1) for k in range(199)] + [("back", 0)]
        self.right(code, 200)

    def test_200_rows_with_many_forks_that_go_round(self):
        code = [("fork", k % 8, (k * 7) % 200, (k * 3) % 200) for k in range(199)] + [("back", 0)]
        self.right(code, None)

    def test_200_rows_that_go_round_but_no_harm(self):
        code = as_stands([("look", 0), ("num", 2, 0, 1), ("mark",), ("out", 0)] * 50)
        code[199] = ("out", 0, 0)
        self.right(code, second_delays(code)[(0, "mark")])
        self.assertEqual(delay(code), 3)


class NothingIsChanged(Case):
    def test_what_is_handed_in(self):
        for code in SAMPLES:
            kept = copy.deepcopy(code)
            for ask in (delays, delay, longest):
                ask(code)
                self.assertEqual(code, kept)
            for harm in second_graph(code):
                lasts(code, harm)
            self.assertEqual(code, kept)

    def test_what_is_done_to_what_was_given(self):
        for code in SAMPLES:
            for harm in second_graph(code):
                first = lasts(code, harm)
                kept = list(first)
                first.append((9, "mark"))
                self.assertEqual(lasts(code, harm), kept)
            if delay(code) is not None:
                number = delay(code)
                first = delays(code)
                kept = dict(first)
                first[(9, "mark")] = 99
                first[(0, "mark")] = 98
                self.assertEqual(delays(code), kept)
                self.assertEqual(delay(code), number)
                first = longest(code)
                kept = list(first)
                first.reverse()
                first.append((9, "mark"))
                self.assertEqual(longest(code), kept)
                self.assertEqual(delay(code), number)

    def test_what_is_done_later_to_what_was_handed_in(self):
        code = [("num", 2, 1, 5, 1), ("back", 0)]
        found = delays(code)
        way = longest(code)
        kept = copy.deepcopy((found, way))
        code[0] = ("mark", 1)
        code.append(("back", 1))
        self.assertEqual((found, way), kept)
        self.right(code, 2)
        self.assertEqual(delays(code)[(0, "mark")], 1)

    def test_nothing_is_kept_between_calls(self):
        for k in range(3):
            self.right(COUNT_DOWN, None)
            self.right(LOOKED_AT, 6)
            self.right(STRAIGHT, 4)


def made_row(chance, places, boxes, place):
    """A row that goes mostly ahead, so that many codes have a delay."""
    box = [chance.randrange(boxes) for k in range(3)]
    one, other = (chance.randrange(places) if chance.random() < 0.08 else min(place + chance.randint(1, 3), places - 1)
                  for k in range(2))
    word = chance.choice(("num", "copy", "copy", "op", "op", "out", "fork", "fork", "look", "mark", "back"))
    side = chance.choice((0, 1, 2))
    if word == "back" or place == places - 1:
        return ("back", box[0])
    if word == "num":
        return ("num", side, box[0], chance.randrange(9), one)
    if word == "copy":
        return ("copy", side, box[0], box[1], one)
    if word == "op":
        return ("op", side, chance.choice(SIGNS), box[0], box[1], box[2], one)
    if word == "fork":
        return ("fork", box[0], one, other)
    return ("mark", one) if word == "mark" else (word, box[0], one)


class MadeCodes(Case):
    def test_held_against_a_second_reckoning(self):
        chance = random.Random(17)
        found = []
        for k in range(1200):
            places = chance.randint(1, 16)
            boxes = chance.choice((1, 2, 3, 8))
            code = [made_row(chance, places, boxes, place) for place in range(places)]
            graph = second_graph(code)
            for harm in chance.sample(list(graph), min(6, len(graph))):
                self.assertEqual(lasts(code, harm), graph[harm], (code, harm))
            expected = second_delays(code)
            found.append(None if expected is None else max(expected.values()))
            self.right(code, found[-1])
        self.assertGreater(found.count(None), 100)
        self.assertGreater(len([number for number in found if number is not None and number > 4]), 300)


if __name__ == "__main__":
    unittest.main()
