import copy
import random
import unittest

from turnguard.codes import fits, is_plain, run
from turnguard.flat import flat
from turnguard.flows import live, meets
from turnguard.harden import harden
from turnguard.harms import delay
from turnguard.texts import read
from turnguard.twins import twin

SIGNS = "+ - * / < = & | ^".split(" ")
DEEDS = ("num", "copy", "op")

# Counts box 0 down, sending it each round; the fork is come to from ahead and from the last deed.
COUNT_DOWN = [("num", 2, 1, 1, 1), ("fork", 0, 2, 4), ("out", 0, 3), ("op", 2, "-", 0, 0, 1, 1), ("back", 0)]
STRAIGHT = [("num", 2, 1, 5, 1), ("op", 2, "+", 2, 0, 1, 2), ("out", 2, 3), ("back", 0)]
SAMPLES = (COUNT_DOWN, STRAIGHT, [("back", 0)], [("num", 2, 0, 1, 0)], [("fork", 3, 0, 0)], [("out", 7, 0)])


def read_boxes(row):
    return {"num": (), "copy": row[3:4], "op": row[4:6]}.get(row[0], row[1:2])


def ways_on(row):
    if row[0] == "back":
        return []
    return [row[2], row[3]] if row[0] == "fork" else [row[-1]]


def is_live(code, place, box):
    """Whether a box of plain code is live at a place: looked for along all ways, place by place."""
    seen, coming = set(), [place]
    while coming:
        place = coming.pop()
        row = code[place]
        if box in read_boxes(row):
            return True
        given = {"num": row[2:3], "copy": row[2:3], "op": row[3:4]}.get(row[0], ())
        if place not in seen and box not in given:
            coming.extend(ways_on(row))
        seen.add(place)
    return False


def second_harden(code):
    """Hardened code by the words of the document: rows with names for places first, the names then made places."""
    begins = [0] + [way for row in code for way in ways_on(row)]
    named = []
    for place, row in enumerate(code):
        put = []
        if begins.count(place) >= 2:
            put += [("look", box) for box in range(8) if is_live(code, place, box)] + [("mark",)]
        if row[0] in DEEDS:
            put.append(row[:1] + (0,) + row[2:-1])
        names = [(place, k) for k in range(len(put) + 1)]
        for k, one in enumerate(put):
            named.append((names[k], one, [names[k + 1]]))
        ways = [(way, 0) for way in ways_on(row)]
        if row[0] in DEEDS:
            row = row[:1] + (1,) + row[2:]
        named.append((names[-1], row[:len(row) - len(ways)], ways))
    places = {name: k for k, (name, start, ways) in enumerate(named)}
    return [start + tuple(places[way] for way in ways) for name, start, ways in named]


class Case(unittest.TestCase):
    def right(self, code, expected):
        self.assertTrue(fits(code) and is_plain(code))
        kept = copy.deepcopy(code)
        found = harden(code)
        self.assertEqual(found, expected, code)
        self.assertIs(type(found), list)
        self.assertTrue(all(type(row) is tuple for row in found))
        self.assertTrue(fits(found))
        self.assertEqual(code, kept)
        self.assertEqual(second_harden(code), expected, code)


class WithoutMeets(Case):
    def test_one_row(self):
        self.right([("back", 3)], [("back", 3)])

    def test_each_deed_is_done_by_two_rows(self):
        self.right([("num", 2, 1, 5, 1), ("back", 1)], [("num", 0, 1, 5, 1), ("num", 1, 1, 5, 2), ("back", 1)])
        self.right([("copy", 2, 1, 4, 1), ("back", 1)], [("copy", 0, 1, 4, 1), ("copy", 1, 1, 4, 2), ("back", 1)])
        self.right([("op", 2, "-", 1, 4, 6, 1), ("back", 1)],
                   [("op", 0, "-", 1, 4, 6, 1), ("op", 1, "-", 1, 4, 6, 2), ("back", 1)])

    def test_straight_code(self):
        self.right(STRAIGHT, [("num", 0, 1, 5, 1), ("num", 1, 1, 5, 2), ("op", 0, "+", 2, 0, 1, 3),
                              ("op", 1, "+", 2, 0, 1, 4), ("out", 2, 5), ("back", 0)])

    def test_a_fork(self):
        self.right([("fork", 0, 1, 3), ("num", 2, 1, 1, 2), ("back", 1), ("out", 2, 4), ("back", 2)],
                   [("fork", 0, 1, 4), ("num", 0, 1, 1, 2), ("num", 1, 1, 1, 3), ("back", 1), ("out", 2, 5),
                    ("back", 2)])
        self.right([("fork", 0, 2, 1), ("num", 2, 1, 1, 3), ("back", 2), ("back", 1)],
                   [("fork", 0, 3, 1), ("num", 0, 1, 1, 2), ("num", 1, 1, 1, 4), ("back", 2), ("back", 1)])

    def test_rows_that_do_not_stand_in_the_order_in_which_they_are_done(self):
        self.right([("num", 2, 1, 5, 2), ("back", 1), ("copy", 2, 1, 0, 1)],
                   [("num", 0, 1, 5, 1), ("num", 1, 1, 5, 3), ("back", 1), ("copy", 0, 1, 0, 4),
                    ("copy", 1, 1, 0, 2)])

    def test_numbers_that_are_like_places_stay(self):
        self.right([("num", 2, 1, 2, 1), ("num", 2, 2, 1, 2), ("back", 2)],
                   [("num", 0, 1, 2, 1), ("num", 1, 1, 2, 2), ("num", 0, 2, 1, 3), ("num", 1, 2, 1, 4), ("back", 2)])
        self.right([("num", 2, 7, 2 ** 48 - 1, 1), ("back", 7)],
                   [("num", 0, 7, 2 ** 48 - 1, 1), ("num", 1, 7, 2 ** 48 - 1, 2), ("back", 7)])


class WithMeets(Case):
    def test_at_a_fork(self):
        self.right(COUNT_DOWN, [("num", 0, 1, 1, 1), ("num", 1, 1, 1, 2),
                                ("look", 0, 3), ("look", 1, 4), ("mark", 5), ("fork", 0, 6, 9),
                                ("out", 0, 7), ("op", 0, "-", 0, 0, 1, 8), ("op", 1, "-", 0, 0, 1, 2), ("back", 0)])

    def test_at_a_deed(self):
        self.right([("fork", 0, 2, 1), ("out", 0, 2), ("copy", 2, 1, 5, 3), ("back", 1)],
                   [("fork", 0, 2, 1), ("out", 0, 2), ("look", 5, 3), ("mark", 4), ("copy", 0, 1, 5, 5),
                    ("copy", 1, 1, 5, 6), ("back", 1)])

    def test_at_an_out(self):
        self.right([("fork", 0, 2, 1), ("out", 0, 2), ("out", 3, 3), ("back", 1)],
                   [("fork", 0, 2, 1), ("out", 0, 2), ("look", 1, 3), ("look", 3, 4), ("mark", 5), ("out", 3, 6),
                    ("back", 1)])

    def test_at_a_back(self):
        self.right([("fork", 0, 2, 1), ("out", 0, 2), ("back", 7)],
                   [("fork", 0, 2, 1), ("out", 0, 2), ("look", 7, 3), ("mark", 4), ("back", 7)])

    def test_at_place_0(self):
        # The begin is one way to it, so that one more is enough.
        self.right([("fork", 2, 1, 2), ("out", 1, 0), ("back", 0)],
                   [("look", 0, 1), ("look", 1, 2), ("look", 2, 3), ("mark", 4), ("fork", 2, 5, 6), ("out", 1, 0),
                    ("back", 0)])

    def test_no_box_is_live(self):
        self.right([("fork", 0, 1, 1), ("num", 2, 0, 5, 2), ("back", 0)],
                   [("fork", 0, 1, 1), ("mark", 2), ("num", 0, 0, 5, 3), ("num", 1, 0, 5, 4), ("back", 0)])
        self.right([("num", 2, 0, 5, 0)], [("mark", 1), ("num", 0, 0, 5, 2), ("num", 1, 0, 5, 0)])

    def test_all_boxes_are_live(self):
        code = [("fork", 0, 1, 1)] + [("out", 7 - k, k + 2) for k in range(7)] + [("back", 0)]
        self.right(code, [("fork", 0, 1, 1)] + [("look", box, box + 2) for box in range(8)] + [("mark", 10)]
                   + [("out", 7 - k, k + 11) for k in range(7)] + [("back", 0)])

    def test_a_fork_with_both_places_alike(self):
        self.right([("fork", 0, 1, 1), ("back", 1)], [("fork", 0, 1, 1), ("look", 1, 2), ("mark", 3), ("back", 1)])
        self.right([("fork", 0, 0, 0)], [("look", 0, 1), ("mark", 2), ("fork", 0, 0, 0)])

    def test_a_row_that_goes_on_to_itself(self):
        self.right([("out", 4, 0)], [("look", 4, 1), ("mark", 2), ("out", 4, 0)])
        self.right([("op", 2, "+", 0, 0, 1, 0)],
                   [("look", 0, 1), ("look", 1, 2), ("mark", 3), ("op", 0, "+", 0, 0, 1, 4),
                    ("op", 1, "+", 0, 0, 1, 0)])
        self.right([("num", 2, 1, 1, 1), ("fork", 0, 1, 2), ("back", 1)],
                   [("num", 0, 1, 1, 1), ("num", 1, 1, 1, 2), ("look", 0, 3), ("look", 1, 4), ("mark", 5),
                    ("fork", 0, 2, 6), ("back", 1)])

    def test_rows_to_which_nothing_leads(self):
        # Nothing leads to place 1, but it leads to place 0, which has two ways so: the begin is the other.
        self.right([("back", 0), ("num", 2, 0, 1, 0)],
                   [("look", 0, 1), ("mark", 2), ("back", 0), ("num", 0, 0, 1, 4), ("num", 1, 0, 1, 0)])
        self.right([("back", 0), ("num", 2, 0, 1, 2), ("back", 0)],
                   [("back", 0), ("num", 0, 0, 1, 2), ("num", 1, 0, 1, 3), ("back", 0)])

    def test_one_way_round_to_which_nothing_leads_is_no_meet(self):
        self.right([("back", 0), ("num", 2, 0, 1, 1)], [("back", 0), ("num", 0, 0, 1, 2), ("num", 1, 0, 1, 1)])

    def test_on_to_a_meet_ahead_and_behind(self):
        # Place 1 and 3 are meets; both go on to place 1, and both are gone on to from ahead.
        self.right([("fork", 0, 1, 3), ("out", 1, 2), ("fork", 2, 3, 1), ("copy", 2, 2, 1, 1)],
                   [("fork", 0, 1, 6), ("look", 1, 2), ("look", 2, 3), ("mark", 4), ("out", 1, 5),
                    ("fork", 2, 6, 1), ("look", 1, 7), ("mark", 8), ("copy", 0, 2, 1, 9), ("copy", 1, 2, 1, 1)])

    def test_side_0_goes_on_to_side_1_and_not_to_a_meet(self):
        self.right([("num", 2, 1, 1, 0)], [("mark", 1), ("num", 0, 1, 1, 2), ("num", 1, 1, 1, 0)])

    def test_what_is_live_is_asked_of_the_plain_code(self):
        # At place 2 box 1 is given ahead of being read; hardened, looks read more, but only what is live there.
        self.right([("fork", 0, 1, 2), ("out", 1, 2), ("num", 2, 1, 1, 3), ("fork", 0, 2, 4), ("back", 1)],
                   [("fork", 0, 1, 2), ("out", 1, 2), ("look", 0, 3), ("mark", 4), ("num", 0, 1, 1, 5),
                    ("num", 1, 1, 1, 6), ("fork", 0, 2, 7), ("back", 1)])


class OneSide(unittest.TestCase):
    def test_a_box_of_which_only_one_side_is_live(self):
        # Not plain: side 0 of box 1 is given behind the meet, so that only its side 1 is live there.
        code = [("fork", 0, 1, 1), ("num", 0, 1, 5, 2), ("back", 1)]
        self.assertEqual(live(code)[1], [(1, 1)])
        self.assertEqual(harden(code)[:3], [("fork", 0, 1, 1), ("look", 1, 2), ("mark", 3)])
        code = [("fork", 0, 1, 1), ("num", 1, 1, 5, 2), ("back", 1)]
        self.assertEqual(live(code)[1], [(0, 1)])
        self.assertEqual(harden(code)[:3], [("fork", 0, 1, 1), ("look", 1, 2), ("mark", 3)])

    def test_a_box_of_which_both_are_live_is_looked_at_once(self):
        code = [("fork", 0, 1, 1), ("back", 1)]
        self.assertEqual(live(code)[1], [(0, 1), (1, 1)])
        self.assertEqual(harden(code), [("fork", 0, 1, 1), ("look", 1, 2), ("mark", 3), ("back", 1)])


class Programs(Case):
    def hardened(self, text):
        code = flat(read(text))
        found = harden(code)
        self.right(code, found)
        return found

    def test_a_program_with_a_while(self):
        self.assertEqual(self.hardened("in n\nwhile n {\nn = n - n\n}\nback n"),
                         [("look", 0, 1), ("mark", 2), ("fork", 0, 3, 5), ("op", 0, "-", 0, 0, 0, 4),
                          ("op", 1, "-", 0, 0, 0, 0), ("back", 0)])

    def test_a_program_with_an_if(self):
        self.assertEqual(self.hardened("in a\nif a {\nout a\n} else {\na = 7\n}\nback a"),
                         [("fork", 0, 1, 2), ("out", 0, 4), ("num", 0, 0, 7, 3), ("num", 1, 0, 7, 4), ("look", 0, 5),
                          ("mark", 6), ("back", 0)])

    def test_while_and_if_without_anything_in_them(self):
        self.assertEqual(self.hardened("in a\nwhile a {\n}\nback a"),
                         [("look", 0, 1), ("mark", 2), ("fork", 0, 0, 3), ("back", 0)])
        self.assertEqual(self.hardened("in a\nif a {\n}\nback a"),
                         [("fork", 0, 1, 1), ("look", 0, 2), ("mark", 3), ("back", 0)])

    def test_hardened_code_of_a_program_has_a_delay(self):
        for text in ("in\nback a", "in a\nwhile a {\n}\nback a", "in a\nif a {\n}\nback a",
                     "in a b\nwhile a {\nwhile b {\nb = a - b\n}\na = a - b\n}\nback b",
                     "in a\nwhile a {\nwhile a {\nwhile a {\n}\n}\n}\nback a"):
            self.assertIsNotNone(delay(self.hardened(text)))


class Size(Case):
    def test_60_rows_of_which_each_is_a_meet(self):
        # Each is gone on to from two places, and all boxes are live everywhere.
        code = [("fork", k % 8, (k + 1) % 60, (k + 9) % 60) for k in range(60)]
        self.assertEqual(meets(code), list(range(60)))
        found = harden(code)
        self.assertEqual(len(found), 600)
        self.right(code, second_harden(code))
        code = [("op", 2, "+", k % 8, (k + 1) % 8, k % 8, 0) for k in range(59)] + [("fork", 7, 0, 59)]
        self.right(code, second_harden(code))

    def test_a_row_becomes_eleven_at_most(self):
        code = [("fork", 0, 1, 1), ("op", 2, "+", 0, 0, 1, 2)] + [("out", k, k + 3) for k in range(7)] + [("back", 7)]
        self.assertEqual(len(harden(code)), 10 + 1 + 9)

    def test_a_program_of_120_statements(self):
        text = "in a b\n" + "while a {\nif b {\nb = a\n}\na = a - b\n}\n" * 30 + "back b"
        code = flat(read(text))
        self.assertEqual(len(code), 121)
        self.right(code, second_harden(code))
        self.assertIsNotNone(delay(harden(code)))


class NothingIsChanged(Case):
    def test_a_new_list_each_time(self):
        for code in SAMPLES:
            first = harden(code)
            kept = list(first)
            first[0] = ("back", 7)
            first.append(("mark", 0))
            self.assertEqual(harden(code), kept)
            self.assertIsNot(harden(code), harden(code))

    def test_code_that_stays_as_it_is_is_a_new_list_too(self):
        code = [("out", 0, 1), ("back", 0)]
        found = harden(code)
        self.assertEqual(found, code)
        self.assertIsNot(found, code)
        code[0] = ("out", 1, 1)
        self.assertEqual(found, [("out", 0, 1), ("back", 0)])
        self.assertEqual(harden(code), [("out", 1, 1), ("back", 0)])


def made_code(chance):
    places = chance.randint(1, 12)
    boxes = chance.choice((1, 2, 3, 8))
    code = []
    for place in range(places):
        near = [min(place + step, places - 1) for step in (1, 2)]
        one, other = (chance.randrange(places) if chance.random() < 0.3 else chance.choice(near) for k in range(2))
        box = [chance.randrange(boxes) for k in range(3)]
        code.append(chance.choice((
            ("num", 2, box[0], chance.randrange(places + 2), one), ("copy", 2, box[0], box[1], one),
            ("op", 2, chance.choice(SIGNS), box[0], box[1], box[2], one), ("out", box[0], one),
            ("fork", box[0], one, other), ("fork", box[0], other, one), ("back", box[0]))))
    return code


class MadeCodes(Case):
    def test_held_against_a_second_reckoning(self):
        chance = random.Random(18)
        for k in range(1500):
            code = made_code(chance)
            self.right(code, second_harden(code))

    def test_in_plain_code_both_sides_are_live_or_none(self):
        chance = random.Random(118)
        for k in range(300):
            for lively in live(made_code(chance)):
                self.assertEqual([box for side, box in lively if side == 0], [box for side, box in lively if side == 1])

    def test_hardened_code_does_what_the_plain_code_does(self):
        chance = random.Random(1118)
        ended = 0
        for k in range(600):
            code = made_code(chance)
            args = [chance.choice((0, 1, 2, 3, 2 ** 48 - 1)) for box in range(chance.randint(0, 8))]
            plain = run(code, args, 60)
            found = twin(harden(code), args, None, 60 * 11)
            if plain[0] == "back":
                ended += 1
                self.assertEqual(found[:3], plain[:3])
                self.assertLessEqual(found[3], 11 * plain[3])
                self.assertEqual(twin(harden(code), args, None, 11 * plain[3]), found)
            else:
                # Some rows become fewer than eleven, so that it may be further on than the plain run.
                further = run(code, args, 60 * 11)
                self.assertEqual(found[1][:len(plain[1])], plain[1])
                self.assertEqual(further[1][:len(found[1])], found[1])
                self.assertIn(found[0], ("tired", further[0]))
        self.assertGreater(ended, 200)


if __name__ == "__main__":
    unittest.main()
