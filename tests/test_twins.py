import copy
import random
import unittest

from turnguard.codes import fits, run
from turnguard.harden import harden
from turnguard.signs import value
from turnguard.twins import Twin, twin

SIGNS = "+ - * / < = & | ^".split(" ")
TOP = 2 ** 48 - 1

# Counts box 0 down, sending it each round.
COUNT_DOWN = [("num", 2, 1, 1, 1), ("fork", 0, 2, 4), ("out", 0, 3), ("op", 2, "-", 0, 0, 1, 1), ("back", 0)]


def second_twin(code, args, turns, most):
    """A run by the words of the document: what is told, and the place, mark and boxes in the end."""
    held = {(side, box): args[box] if box < len(args) else 0 for side in (0, 1) for box in range(8)}
    place, mark, sent, steps = 0, 0, [], 0
    due = {step: what for step, what in turns}

    def told(word, answer=None):
        return (word, sent, answer, steps), place, mark, held

    while steps < most:
        what = due.get(steps, ("none",))
        if what[0] == "box":
            held[what[1:3]] ^= 1 << what[3]
        mark ^= 1 << what[1] if what[0] == "mark" else 0
        place ^= 1 << what[1] if what[0] == "place" else 0
        steps += 1
        if place not in range(len(code)):
            return told("cry")
        word, rest = code[place][0], code[place][1:]
        way = rest[-1]
        if word in ("num", "copy", "op"):
            for side in {0: (0,), 1: (1,), 2: (0, 1)}[rest[0]]:
                if word == "num":
                    held[side, rest[1]] = rest[2]
                elif word == "copy":
                    held[side, rest[1]] = held[side, rest[2]]
                else:
                    held[side, rest[2]] = value(rest[1], held[side, rest[3]], held[side, rest[4]])
        elif word == "mark":
            if mark != place:
                return told("cry")
        else:
            one, other = held[0, rest[0]], held[1, rest[0]]
            if word == "fork":
                if bool(one) != bool(other):
                    return told("cry")
                way = rest[1] if one else rest[2]
            elif one != other:
                return told("cry")
            if word in ("out", "back") and mark != place:
                return told("cry")
            if word == "back":
                return told("back", one)
            if word == "out":
                sent.append(one)
        place, mark = way, mark ^ place ^ way
    return told("tired")


class Case(unittest.TestCase):
    def stepped(self, code, args, whats, told, place, mark):
        """A machine with bits turned at its begin and one step taken is as told."""
        self.assertTrue(fits(code))
        machine = Twin(code, args)
        for what in whats:
            self.assertIsNone(machine.turn(what))
        self.assertIsNone(machine.step())
        self.assertEqual(machine.told(), told, (code, args, whats))
        self.assertEqual((machine.place(), machine.mark()), (place, mark), (code, args, whats))
        return machine

    def goes_on(self, code, args, whats, place, mark):
        return self.stepped(code, args, whats, ("", [], None, 1), place, mark)

    def cries(self, code, args, whats, place=0, mark=0):
        """It cries, and neither place nor mark go on."""
        return self.stepped(code, args, whats, ("cry", [], None, 1), place, mark)

    def boxes(self, machine, one, other):
        self.assertEqual([machine.box(0, k) for k in range(8)], one + [0] * (8 - len(one)))
        self.assertEqual([machine.box(1, k) for k in range(8)], other + [0] * (8 - len(other)))

    def right(self, code, args, turns, most, expected):
        self.assertTrue(fits(code))
        kept = copy.deepcopy((code, args, turns))
        found = twin(code, args, turns, most)
        self.assertEqual(found, expected, (code, args, turns, most))
        self.assertIs(type(found), tuple)
        self.assertIs(type(found[1]), list)
        self.assertEqual((code, args, turns), kept)
        self.assertEqual(second_twin(code, args, turns or [], most)[0], expected)


class Begin(Case):
    def test_boxes_place_and_mark(self):
        machine = Twin(COUNT_DOWN, [5, TOP])
        self.boxes(machine, [5, TOP], [5, TOP])
        self.assertEqual((machine.place(), machine.mark()), (0, 0))
        self.assertEqual(machine.told(), ("", [], None, 0))

    def test_no_args_and_eight(self):
        self.boxes(Twin([("back", 0)], []), [], [])
        self.boxes(Twin([("back", 0)], [1, 2, 3, 4, 5, 6, 7, 8]), [1, 2, 3, 4, 5, 6, 7, 8], [1, 2, 3, 4, 5, 6, 7, 8])

    def test_kinds(self):
        machine = Twin([("back", 0)], [])
        self.assertTrue(all(type(one) is int for one in (machine.place(), machine.mark(), machine.box(1, 7))))
        self.assertIs(type(machine.told()), tuple)
        self.assertIs(type(machine.told()[1]), list)


class Deeds(Case):
    def test_on_equal_sides(self):
        machine = self.goes_on([("num", 2, 3, 9, 1), ("back", 0)], [5], [], 1, 1)
        self.boxes(machine, [5, 0, 0, 9], [5, 0, 0, 9])
        machine = self.goes_on([("copy", 2, 3, 0, 1), ("back", 0)], [5], [], 1, 1)
        self.boxes(machine, [5, 0, 0, 5], [5, 0, 0, 5])
        machine = self.goes_on([("op", 2, "-", 3, 0, 1, 1), ("back", 0)], [5, 7], [], 1, 1)
        self.boxes(machine, [5, 7, 0, TOP - 1], [5, 7, 0, TOP - 1])

    def test_on_one_side(self):
        for row in (("num", 0, 2, 5, 1), ("copy", 0, 2, 0, 1), ("op", 0, "+", 2, 0, 1, 1)):
            self.boxes(self.goes_on([row, ("back", 0)], [5], [], 1, 1), [5, 0, 5], [5])
        for row in (("num", 1, 2, 5, 1), ("copy", 1, 2, 0, 1), ("op", 1, "+", 2, 0, 1, 1)):
            self.boxes(self.goes_on([row, ("back", 0)], [5], [], 1, 1), [5], [5, 0, 5])

    def test_on_unlike_sides_each_by_its_own_boxes(self):
        whats = [("box", 1, 0, 1)]
        machine = self.goes_on([("copy", 2, 3, 0, 1), ("back", 0)], [5], whats, 1, 1)
        self.boxes(machine, [5, 0, 0, 5], [7, 0, 0, 7])
        machine = self.goes_on([("op", 2, "*", 0, 0, 1, 1), ("back", 0)], [5, 10], whats, 1, 1)
        self.boxes(machine, [50, 10], [70, 10])
        machine = self.goes_on([("op", 2, "*", 0, 1, 0, 1), ("back", 0)], [5, 10], [("box", 0, 0, 1)], 1, 1)
        self.boxes(machine, [70, 10], [50, 10])
        machine = self.goes_on([("op", 0, "-", 2, 1, 0, 1), ("back", 0)], [5, 10], whats, 1, 1)
        self.boxes(machine, [5, 10, 5], [7, 10])
        machine = self.goes_on([("op", 1, "-", 2, 1, 0, 1), ("back", 0)], [5, 10], whats, 1, 1)
        self.boxes(machine, [5, 10], [7, 10, 3])

    def test_giving_makes_sides_alike_again(self):
        machine = self.goes_on([("num", 2, 0, 9, 1), ("back", 0)], [5], [("box", 1, 0, 1)], 1, 1)
        self.boxes(machine, [9], [9])
        machine = self.goes_on([("num", 0, 0, 9, 1), ("back", 0)], [5], [("box", 0, 0, 1)], 1, 1)
        self.boxes(machine, [9], [5])

    def test_nothing_is_looked_at(self):
        for row in (("num", 2, 1, 9, 1), ("copy", 2, 1, 0, 1), ("op", 2, "+", 1, 0, 0, 1)):
            self.goes_on([row, ("back", 0)], [5], [("box", 1, 0, 1), ("mark", 3)], 1, 9)


class Forks(Case):
    CODE = [("fork", 1, 1, 2), ("back", 0), ("back", 0)]

    def test_on_equal_sides(self):
        self.goes_on(self.CODE, [0, 0], [], 2, 2)
        self.goes_on(self.CODE, [9, 0], [], 2, 2)
        self.goes_on(self.CODE, [0, 1], [], 1, 1)
        self.goes_on(self.CODE, [0, TOP], [], 1, 1)

    def test_unlike_sides_both_not_0(self):
        self.goes_on(self.CODE, [0, 1], [("box", 0, 1, 5)], 1, 1)
        self.goes_on(self.CODE, [0, 1], [("box", 1, 1, 47)], 1, 1)

    def test_one_side_is_0(self):
        for side in (0, 1):
            self.cries(self.CODE, [0, 1], [("box", side, 1, 0)])
            self.cries(self.CODE, [0, 0], [("box", side, 1, 0)])
            self.cries(self.CODE, [7, 0], [("box", side, 1, 47)])
            self.cries([("fork", 1, 1, 1), ("back", 0)], [0, 1], [("box", side, 1, 0)])

    def test_another_box_and_the_mark_are_not_looked_at(self):
        self.goes_on(self.CODE, [0, 1], [("box", 0, 0, 5), ("mark", 2)], 1, 5)
        self.goes_on(self.CODE, [0, 0], [("box", 0, 0, 5), ("mark", 2)], 2, 6)


class Looks(Case):
    CODE = [("look", 1, 2), ("back", 0), ("back", 0)]

    def test_on_equal_sides(self):
        self.goes_on(self.CODE, [5, 6], [], 2, 2)
        self.goes_on(self.CODE, [], [], 2, 2)
        self.goes_on(self.CODE, [5, 6], [("box", 0, 1, 3), ("box", 1, 1, 3)], 2, 2)

    def test_on_unlike_ones(self):
        for side in (0, 1):
            for bit in (0, 1, 47):
                self.cries(self.CODE, [5, 6], [("box", side, 1, bit)])
                self.cries(self.CODE, [], [("box", side, 1, bit)])

    def test_another_box_and_the_mark_are_not_looked_at(self):
        self.goes_on(self.CODE, [5, 6], [("box", 0, 0, 5), ("mark", 2)], 2, 6)


class Marks(Case):
    CODE = [("mark", 2), ("back", 0), ("back", 0)]

    def test_right(self):
        self.goes_on(self.CODE, [5], [], 2, 2)
        self.goes_on(self.CODE, [5], [("box", 0, 0, 1)], 2, 2)

    def test_wrong(self):
        for bit in (0, 1, 47):
            self.cries(self.CODE, [5], [("mark", bit)], 0, 1 << bit)

    def test_a_mark_at_another_place(self):
        machine = Twin([("num", 2, 0, 1, 2), ("back", 0), ("mark", 1)], [])
        machine.step()
        machine.step()
        self.assertEqual((machine.told(), machine.place(), machine.mark()), (("", [], None, 2), 1, 1))
        machine = Twin([("num", 2, 0, 1, 2), ("back", 0), ("mark", 1)], [])
        machine.step()
        machine.turn(("mark", 1))
        machine.step()
        self.assertEqual((machine.told(), machine.place(), machine.mark()), (("cry", [], None, 2), 2, 0))

    def test_the_place_and_the_mark_turned_alike(self):
        self.goes_on(self.CODE + [("mark", 1)], [], [("place", 0), ("place", 1), ("mark", 0), ("mark", 1)], 1, 1)


class Outs(Case):
    CODE = [("out", 1, 2), ("back", 0), ("back", 0)]

    def test_right(self):
        self.stepped(self.CODE, [5, 6], [], ("", [6], None, 1), 2, 2)
        self.stepped(self.CODE, [5], [], ("", [0], None, 1), 2, 2)
        self.stepped(self.CODE, [5, 6], [("box", 0, 0, 1)], ("", [6], None, 1), 2, 2)

    def test_unlike(self):
        for side in (0, 1):
            self.cries(self.CODE, [5, 6], [("box", side, 1, 0)])
            self.cries(self.CODE, [5, 6], [("box", side, 1, 47)])

    def test_a_wrong_mark(self):
        self.cries(self.CODE, [5, 6], [("mark", 0)], 0, 1)
        self.cries(self.CODE, [5, 6], [("mark", 47)], 0, 1 << 47)
        self.cries(self.CODE, [5, 6], [("mark", 0), ("box", 1, 1, 0)], 0, 1)


class Backs(Case):
    CODE = [("back", 1), ("back", 0)]

    def test_right(self):
        self.stepped(self.CODE, [5, 6], [], ("back", [], 6, 1), 0, 0)
        self.stepped(self.CODE, [], [], ("back", [], 0, 1), 0, 0)
        self.stepped(self.CODE, [5, TOP], [("box", 0, 0, 1)], ("back", [], TOP, 1), 0, 0)

    def test_unlike(self):
        for side in (0, 1):
            self.cries(self.CODE, [5, 6], [("box", side, 1, 0)])

    def test_a_wrong_mark(self):
        self.cries(self.CODE, [5, 6], [("mark", 0)], 0, 1)
        self.cries(self.CODE, [5, 6], [("place", 0)], 1, 0)


class Turns(Case):
    def test_boxes(self):
        for bit in range(48):
            machine = Twin([("back", 0)], [TOP, 0])
            machine.turn(("box", 0, 0, bit))
            machine.turn(("box", 1, 1, bit))
            self.boxes(machine, [TOP - 2 ** bit], [TOP, 2 ** bit])
            machine.turn(("box", 0, 0, bit))
            machine.turn(("box", 1, 1, bit))
            self.boxes(machine, [TOP], [TOP])

    def test_boxes_that_the_code_never_names(self):
        for side in (0, 1):
            for box in range(1, 8):
                machine = Twin([("back", 0)], [5])
                machine.turn(("box", side, box, 4))
                self.assertEqual([machine.box(own, k) for own in (0, 1) for k in range(8)],
                                 [16 if (own, k) == (side, box) else 5 if k == 0 else 0
                                  for own in (0, 1) for k in range(8)])
                machine.step()
                self.assertEqual(machine.told(), ("back", [], 5, 1))

    def test_the_mark_and_the_place(self):
        for bit in (0, 1, 2, 46, 47):
            machine = Twin([("mark", 0), ("back", 0)], [])
            machine.turn(("mark", bit))
            self.assertEqual((machine.place(), machine.mark()), (0, 1 << bit))
            machine.turn(("mark", bit))
            machine.turn(("place", bit))
            self.assertEqual((machine.place(), machine.mark()), (1 << bit, 0))
            machine.turn(("place", bit))
            self.assertEqual((machine.place(), machine.mark()), (0, 0))
            self.assertEqual(machine.told(), ("", [], None, 0))

    def test_a_place_beyond_the_code_cries_at_once(self):
        code = [("num", 2, 0, 1, 1), ("num", 2, 0, 1, 2), ("back", 0)]
        for bit in range(2, 48):
            self.cries(code, [5], [("place", bit)], 1 << bit, 0)
        # Place 3 is the first that the code has not.
        self.cries(code, [5], [("place", 0), ("place", 1)], 3, 0)
        machine = self.cries(code, [5], [("place", 47)], 2 ** 47, 0)
        self.boxes(machine, [5], [5])

    def test_a_place_within_the_code(self):
        code = [("num", 2, 0, 1, 1), ("num", 2, 1, 1, 2), ("back", 0)]
        machine = self.goes_on(code, [5], [("place", 0)], 2, 3)
        self.boxes(machine, [5, 1], [5, 1])
        machine.step()
        self.assertEqual(machine.told(), ("cry", [], None, 2))


class Goes(Case):
    def test_the_mark_after_each_step(self):
        machine = Twin(COUNT_DOWN, [2])
        places = []
        for steps in range(9):
            places.append(machine.place())
            self.assertEqual(machine.mark(), machine.place())
            self.assertEqual(machine.told()[3], steps)
            machine.step()
        self.assertEqual(places, [0, 1, 2, 3, 1, 2, 3, 1, 4])
        self.assertEqual(machine.told(), ("back", [2, 1], 0, 9))
        self.assertEqual((machine.place(), machine.mark()), (4, 4))

    def test_the_mark_keeps_what_was_turned(self):
        machine = Twin([("num", 2, 0, 1, 1), ("look", 0, 2), ("fork", 0, 3, 0), ("copy", 2, 0, 0, 0)], [])
        made = 0
        for steps in range(12):
            if steps in (2, 5, 9):
                machine.turn(("mark", steps))
                made ^= 1 << steps
            if steps == 7:
                machine.turn(("place", 1))
                made ^= 2
            self.assertEqual(machine.mark() ^ machine.place(), made)
            machine.step()
            self.assertEqual(machine.mark() ^ machine.place(), made)
        self.assertEqual(machine.told(), ("", [], None, 12))

    def test_told_before_between_and_after(self):
        machine = Twin(COUNT_DOWN, [1])
        found = [machine.told()]
        for steps in range(6):
            machine.step()
            found.append(machine.told())
        self.assertEqual(found, [("", [], None, 0), ("", [], None, 1), ("", [], None, 2), ("", [1], None, 3),
                                 ("", [1], None, 4), ("", [1], None, 5), ("back", [1], 0, 6)])

    def test_told_at_a_cry_behind_something_sent(self):
        machine = Twin(COUNT_DOWN, [2])
        for steps in range(5):
            machine.step()
        machine.turn(("box", 1, 0, 0))
        machine.step()
        self.assertEqual(machine.told(), ("cry", [2], None, 6))

    def test_a_step_and_a_turn_of_one_that_has_ended(self):
        for whats, told in (([], ("back", [], 5, 1)), ([("box", 0, 0, 1)], ("cry", [], None, 1)),
                            ([("place", 9)], ("cry", [], None, 1)), ([("mark", 9)], ("cry", [], None, 1))):
            machine = Twin([("back", 0)], [5])
            for what in whats:
                machine.turn(what)
            machine.step()
            kept = [machine.place(), machine.mark()] + [machine.box(side, k) for side in (0, 1) for k in range(8)]
            for what in (("box", 0, 0, 1), ("box", 1, 3, 4), ("mark", 9), ("place", 9), ("place", 0)):
                self.assertIsNone(machine.turn(what))
                self.assertIsNone(machine.step())
                self.assertEqual(machine.told(), told)
                self.assertEqual([machine.place(), machine.mark()]
                                 + [machine.box(side, k) for side in (0, 1) for k in range(8)], kept)


class Runs(Case):
    def test_without_turns(self):
        for turns in (None, []):
            self.right(COUNT_DOWN, [2], turns, 400, ("back", [2, 1], 0, 9))
            self.right([("back", 0)], [5], turns, 400, ("back", [], 5, 1))
        self.assertEqual(twin(COUNT_DOWN, [2]), ("back", [2, 1], 0, 9))
        self.assertEqual(twin(COUNT_DOWN, [2], None), ("back", [2, 1], 0, 9))
        self.assertEqual(twin(code=COUNT_DOWN, args=[2], turns=[], most=9), ("back", [2, 1], 0, 9))

    def test_code_that_cries_by_itself(self):
        self.right([("num", 0, 0, 5, 1), ("look", 0, 2), ("back", 0)], [], None, 400, ("cry", [], None, 2))
        self.right([("num", 0, 0, 5, 1), ("look", 0, 2), ("back", 0)], [5], None, 400, ("back", [], 5, 3))

    def test_the_bound(self):
        for most, expected in ((0, ("tired", [], None, 0)), (1, ("tired", [], None, 1)), (2, ("tired", [], None, 2)),
                               (3, ("tired", [2], None, 3)), (8, ("tired", [2, 1], None, 8)),
                               (9, ("back", [2, 1], 0, 9)), (10, ("back", [2, 1], 0, 9)),
                               (3000, ("back", [2, 1], 0, 9))):
            self.right(COUNT_DOWN, [2], None, most, expected)

    def test_the_bound_left_out(self):
        self.assertEqual(twin([("mark", 0)], []), ("tired", [], None, 400))
        self.assertEqual(twin([("out", 0, 0)], [7]), ("tired", [7] * 400, None, 400))
        self.assertEqual(twin([("out", 0, 0)], [7], [(399, ("mark", 0))]), ("cry", [7] * 399, None, 400))
        self.assertEqual(twin([("out", 0, 0)], [7], [(400, ("mark", 0))]), ("tired", [7] * 400, None, 400))
        self.assertEqual(twin([("out", 0, 0)], [7], [], 3000), ("tired", [7] * 3000, None, 3000))

    def test_a_cry_within_the_bound_at_it_and_beyond_it(self):
        turns = [(5, ("box", 1, 0, 0))]
        self.right(COUNT_DOWN, [2], turns, 400, ("cry", [2], None, 6))
        self.right(COUNT_DOWN, [2], turns, 7, ("cry", [2], None, 6))
        self.right(COUNT_DOWN, [2], turns, 6, ("cry", [2], None, 6))
        # The step that would cry is not taken.
        self.right(COUNT_DOWN, [2], turns, 5, ("tired", [2], None, 5))
        self.right(COUNT_DOWN, [2], [(5, ("place", 47))], 5, ("tired", [2], None, 5))
        self.right([("back", 0)], [2], [(0, ("mark", 0))], 0, ("tired", [], None, 0))

    def test_harm_that_is_not_told_yet_at_the_bound(self):
        code = [("num", 2, 1, 1, 1), ("num", 2, 1, 1, 2), ("back", 0)]
        self.right(code, [2], [(0, ("box", 0, 0, 0))], 2, ("tired", [], None, 2))
        self.right(code, [2], [(0, ("box", 0, 0, 0))], 3, ("cry", [], None, 3))

    def test_a_turn_at_step_0(self):
        self.right([("back", 0)], [5], [(0, ("box", 0, 0, 0))], 400, ("cry", [], None, 1))
        self.right([("back", 0)], [5], [(0, ("box", 1, 0, 47))], 400, ("cry", [], None, 1))
        self.right([("back", 0)], [5], [(0, ("mark", 47))], 400, ("cry", [], None, 1))
        self.right([("back", 0)], [5], [(0, ("place", 0))], 400, ("cry", [], None, 1))
        self.right([("back", 0)], [5], [(0, ("box", 1, 1, 0))], 400, ("back", [], 5, 1))

    def test_a_turn_at_the_last_step_and_behind_it(self):
        self.right(COUNT_DOWN, [2], [(8, ("box", 1, 0, 3))], 400, ("cry", [2, 1], None, 9))
        self.right(COUNT_DOWN, [2], [(8, ("mark", 3))], 400, ("cry", [2, 1], None, 9))
        self.right(COUNT_DOWN, [2], [(8, ("box", 1, 1, 3))], 400, ("back", [2, 1], 0, 9))
        for step in (9, 10, 399, 400, 3000):
            for what in (("box", 1, 0, 3), ("mark", 3), ("place", 3)):
                self.right(COUNT_DOWN, [2], [(step, what)], 400, ("back", [2, 1], 0, 9))

    def test_a_turn_that_makes_no_difference(self):
        # Box 1 is given at place 0.
        self.right(COUNT_DOWN, [2], [(0, ("box", 1, 1, 3))], 400, ("back", [2, 1], 0, 9))
        # 0 times anything is 0.
        code = [("op", 2, "*", 0, 0, 1, 1), ("back", 0)]
        self.right(code, [5, 0], [(0, ("box", 1, 0, 3))], 400, ("back", [], 0, 2))

    def test_two_turns(self):
        # The second takes back what the first did, ahead of where it would be seen, or a step too late.
        code = [("num", 2, 1, 1, 1), ("num", 2, 1, 1, 2), ("back", 0)]
        for what in (("box", 0, 0, 5), ("mark", 5)):
            self.right(code, [2], [(0, what)], 400, ("cry", [], None, 3))
            self.right(code, [2], [(0, what), (1, what)], 400, ("back", [], 2, 3))
            self.right(code, [2], [(0, what), (2, what)], 400, ("back", [], 2, 3))
            self.right(code, [2], [(0, what), (3, what)], 400, ("cry", [], None, 3))
        # The same bit turned on both sides is seen by nobody.
        self.right(code, [2], [(0, ("box", 0, 0, 5)), (1, ("box", 1, 0, 5))], 400, ("back", [], 34, 3))

    def test_twenty_turns(self):
        code = [("num", 2, 1, 1, 0)]
        turns = [(2 * k, ("box", k % 2, 0, k)) for k in range(20)]
        self.right(code, [0], turns, 100, ("tired", [], None, 100))
        code = [("num", 2, 1, 1, k + 1) for k in range(40)] + [("fork", 0, 41, 41), ("back", 1)]
        self.right(code, [0], turns, 100, ("back", [], 1, 42))
        self.right(code, [0], turns[:19], 100, ("back", [], 1, 42))
        self.right(code, [0], turns[:1], 100, ("cry", [], None, 41))
        marks = [(2 * k, ("mark", 5)) for k in range(20)]
        self.right(code, [0], marks, 100, ("back", [], 1, 42))
        self.right(code, [0], marks[:19], 100, ("cry", [], None, 42))

    def test_a_turn_of_the_place(self):
        # From place 1 to place 3: box 0 goes down, and the next out tells.
        self.right(COUNT_DOWN, [2], [(1, ("place", 1))], 400, ("cry", [], None, 4))
        self.right(COUNT_DOWN, [2], [(1, ("place", 2))], 400, ("cry", [], None, 2))
        # The mark is turned with it, a step later: nobody sees.
        self.right(COUNT_DOWN, [2], [(1, ("place", 1)), (2, ("mark", 1))], 400, ("back", [1], 0, 7))

    def test_hardened_code(self):
        code = harden(COUNT_DOWN)
        self.right(code, [2], None, 400, ("back", [2, 1], 0, 21))
        # The look at box 1 sees what was turned a round ago.
        self.right(code, [2], [(5, ("box", 1, 1, 0))], 400, ("cry", [2], None, 10))


class NothingIsChanged(Case):
    def test_what_is_handed_in(self):
        code, args = list(COUNT_DOWN), [2]
        machine = Twin(code, args)
        machine.turn(("box", 0, 0, 0))
        for steps in range(4):
            machine.step()
        self.assertEqual((code, args), (COUNT_DOWN, [2]))
        turns = [(1, ("box", 0, 0, 0)), (3, ("mark", 1))]
        twin(code, args, turns, 20)
        self.assertEqual((code, args, turns), (COUNT_DOWN, [2], [(1, ("box", 0, 0, 0)), (3, ("mark", 1))]))

    def test_what_is_done_later_to_what_was_handed_in(self):
        code, args = list(COUNT_DOWN), [2]
        machine = Twin(code, args)
        code[0] = ("back", 0)
        args[0] = 7
        args.append(9)
        self.boxes(machine, [2], [2])
        machine.step()
        code[1:] = []
        args.clear()
        for steps in range(8):
            machine.step()
        self.assertEqual(machine.told(), ("back", [2, 1], 0, 9))

    def test_what_is_done_to_what_was_given(self):
        machine = Twin(COUNT_DOWN, [2])
        for steps in range(3):
            machine.step()
        found = machine.told()
        found[1].append(99)
        self.assertEqual(machine.told(), ("", [2], None, 3))
        kept = machine.told()
        for steps in range(6):
            machine.step()
        self.assertEqual(kept, ("", [2], None, 3))
        machine.told()[1].clear()
        self.assertEqual(machine.told(), ("back", [2, 1], 0, 9))
        first = twin(COUNT_DOWN, [2])
        first[1].append(99)
        self.assertEqual(twin(COUNT_DOWN, [2]), ("back", [2, 1], 0, 9))

    def test_machines_do_not_share_anything(self):
        args = [2]
        one, other = Twin(COUNT_DOWN, args), Twin(COUNT_DOWN, args)
        one.turn(("box", 0, 0, 3))
        self.boxes(one, [10], [2])
        self.boxes(other, [2], [2])
        for steps in range(9):
            other.step()
        self.assertEqual(one.told(), ("", [], None, 0))
        self.boxes(one, [10], [2])
        self.assertEqual(other.told(), ("back", [2, 1], 0, 9))


def made_row(chance, places, boxes, place):
    box = [chance.randrange(boxes) for k in range(3)]
    one, other = (chance.randrange(places) if chance.random() < 0.3 else min(place + chance.randint(1, 2), places - 1)
                  for k in range(2))
    side = chance.choice((0, 1, 2, 2, 2))
    return chance.choice((
        ("num", side, box[0], chance.choice((0, 1, 5, TOP)), one), ("copy", side, box[0], box[1], one),
        ("op", side, chance.choice(SIGNS), box[0], box[1], box[2], one), ("out", box[0], one),
        ("fork", box[0], one, other), ("fork", box[0], other, one), ("look", box[0], one), ("mark", one),
        ("back", box[0]) if place > 1 else ("mark", one)))


def made_turns(chance, many, most):
    steps = sorted(chance.sample(range(most), min(many, most)))
    bit = chance.choice((1, 3, 48))
    return [(step, chance.choice((("box", chance.randrange(2), chance.randrange(8), chance.randrange(bit)),
                                  ("box", chance.randrange(2), chance.randrange(2), chance.randrange(bit)),
                                  ("mark", chance.randrange(bit)), ("place", chance.randrange(bit)))))
            for step in steps]


class MadeCodes(Case):
    def test_held_against_a_second_reckoning(self):
        chance = random.Random(22)
        words = []
        for k in range(5000):
            places = chance.randint(1, 12)
            boxes = chance.choice((1, 2, 3, 8))
            code = [made_row(chance, places, boxes, place) for place in range(places)]
            args = [chance.choice((0, 1, 2, 3, TOP)) for box in range(chance.randint(0, 8))]
            turns = made_turns(chance, chance.choice((0, 1, 2, 20)), chance.choice((4, 12, 60)))
            most = chance.choice((0, 1, 5, 20, 60))
            told, place, mark, held = second_twin(code, args, turns, most)
            words.append(told[0])
            self.assertEqual(twin(code, args, turns, most), told, (code, args, turns, most))
            machine = Twin(code, args)
            for steps in range(most):
                for step, what in turns:
                    if step == steps:
                        machine.turn(what)
                machine.step()
            self.assertEqual((machine.place(), machine.mark()), (place, mark))
            self.assertEqual({(side, k): machine.box(side, k) for side in (0, 1) for k in range(8)}, held)
            self.assertEqual(machine.told(), ("" if told[0] == "tired" else told[0],) + told[1:])
        for word in ("back", "cry", "tired"):
            self.assertGreater(words.count(word), 300)

    def test_plain_code_without_turns_is_run_plainly(self):
        chance = random.Random(122)
        for k in range(500):
            places = chance.randint(1, 12)
            code = [made_row(chance, places, 3, place) for place in range(places)]
            code = [row[:1] + (2,) + row[2:] if row[0] in ("num", "copy", "op") else
                    ("out", 0, row[-1]) if row[0] in ("look", "mark") else row for row in code]
            args = [chance.choice((0, 1, 2, 3, TOP)) for box in range(chance.randint(0, 8))]
            self.assertEqual(twin(code, args, None, 60), run(code, args, 60))


if __name__ == "__main__":
    unittest.main()
