"""The promise over the whole program, held over made codes and programs, and what holds as long as a run goes."""

import random
import unittest

from turnguard.codes import fits, run
from turnguard.flat import flat
from turnguard.flows import live
from turnguard.harden import harden
from turnguard.harms import delay, delays, lasts
from turnguard.texts import read
from turnguard.thin import can_go, need, thin, without
from turnguard.twins import Twin, twin
from turnguard.walk import walk
from turnguard.whole import guard, trial

SIGNS = "+ - * / < = & | ^".split(" ")
TOP = 2 ** 48 - 1
FEW = (0, 1, 2, 3, 7, TOP)


def made_row(chance, places, boxes, place):
    """A row that goes mostly ahead, so that many codes have a delay."""
    box = [chance.randrange(boxes) for k in range(3)]
    one, other = (chance.randrange(places) if chance.random() < 0.12 else min(place + chance.randint(1, 3), places - 1)
                  for k in range(2))
    side = chance.choice((0, 1, 2, 2, 2, 2))
    if place == places - 1:
        return ("back", box[0])
    return chance.choice((
        ("num", side, box[0], chance.choice(FEW), one), ("copy", side, box[0], box[1], one),
        ("op", side, chance.choice(SIGNS), box[0], box[1], box[2], one), ("out", box[0], one), ("out", box[1], one),
        ("fork", box[0], one, other), ("fork", box[0], other, one), ("look", box[0], one), ("mark", one),
        ("back", box[0]) if place > 2 else ("mark", one)))


def made_code(chance, most=14):
    places = chance.randint(1, most)
    boxes = chance.choice((1, 2, 3, 8))
    return [made_row(chance, places, boxes, place) for place in range(places)]


def made_plain_code(chance, places):
    rows = [row if row[0] not in ("look", "mark") else ("out", 0, row[-1]) for row in
            [made_row(chance, places, chance.choice((2, 8)), place) for place in range(places)]]
    return [row[:1] + (2,) + row[2:] if row[0] in ("num", "copy", "op") else row for row in rows]


def made_args(chance):
    return [chance.choice(FEW) for box in range(chance.randint(0, 8))]


def made_text(chance, most):
    """A text of at most so many statements, with whiles that mostly end soon."""
    names = "abcdefgh"[:chance.choice((2, 3, 4, 8))]
    params = names[:chance.randint(0, len(names))]
    rows = ["in" + "".join(" " + name for name in params)]
    room = chance.randint(0, most)
    ends = []
    while room > 0 or ends:
        x, a, b = (chance.choice(names) for k in range(3))
        word = chance.choice(("num", "copy", "op", "op", "out", "if", "while", "end", "end"))
        if room == 0 or (word == "end" and ends):
            end = ends.pop()
            if end == "if" and rows[-1] != "} else {" and room > 0 and chance.random() < 0.4:
                rows.append("} else {")
                rows.append(f"{x} = {chance.choice(FEW)}")
                room -= 1
            elif end == "while" and room > 0:
                # Its name goes down, or becomes 0, so that many a while ends.
                rows.append(f"{x} = {a} / {b}")
                room -= 1
            rows.append("}")
            continue
        room -= 1
        if word in ("if", "while"):
            rows.append(f"{word} {a} {{")
            ends.append(word)
        else:
            rows.append({"num": f"{x} = {chance.choice(FEW)}", "copy": f"{x} = {a}", "out": f"out {a}"}.get(
                word, f"{x} = {a} {chance.choice(SIGNS)} {b}"))
    return "\n".join(rows + ["back " + chance.choice(names)])


def made_what(chance, code):
    """A bit of anything; of places often one that stays within the code."""
    bit = chance.choice((0, 1, 2, 3, 4, chance.randrange(48)))
    boxes = [number for row in code for number in row[1:3] if isinstance(number, int) and number < 8] + [0]
    return chance.choice((("box", chance.randrange(2), chance.choice(boxes), bit), ("box", chance.randrange(2),
                          chance.randrange(8), bit), ("mark", bit), ("place", bit)))


def made_turns(chance, code, apart, last):
    """Turns that come at least so many steps behind one another."""
    turns = []
    step = chance.randint(0, last)
    for k in range(chance.choice((1, 1, 2, 3, 20))):
        turns.append((step, made_what(chance, code)))
        step += apart + chance.choice((0, 0, 1, 3))
    return turns


class Case(unittest.TestCase):
    def promised(self, code, args, turns, most, number):
        """The run with turns is right, or cries or is tired soon enough; gives how it went."""
        told = (code, args, turns, most, number)
        base = twin(code, args, None, most)
        self.assertNotEqual(base[0], "cry")
        found = twin(code, args, turns, most)
        self.assertEqual(base[1][:len(found[1])], found[1], told)
        done = [step for step, what in turns if step < found[3]]
        verdict = trial(code, args, turns, most)
        if found == base:
            self.assertEqual(verdict, ("alike", None), told)
            return "alike"
        if found[0] == "cry":
            self.assertIsNone(found[2])
            self.assertTrue(any(found[3] - step <= number for step in done), told)
            self.assertEqual(verdict, ("cried", found[3] - done[-1]), told)
            self.assertLessEqual(verdict[1], number)
            return "cry"
        self.assertEqual(found[0], "tired", told)
        self.assertEqual(found[3], most)
        self.assertTrue(any(most - step < number for step in done), told)
        self.assertEqual(verdict, ("else", None))
        return "tired"


class AnyCode(Case):
    def test_turns_that_are_a_delay_apart(self):
        chance = random.Random(2)
        words = []
        for k in range(3000):
            code = made_code(chance)
            number = delay(code)
            args = made_args(chance)
            if number is None:
                continue
            for again in range(4):
                most = chance.choice((0, 1, 3, 8, 20, 400))
                base = twin(code, args, None, most)
                if base[0] != "cry":
                    turns = made_turns(chance, code, number, base[3])
                    words.append(self.promised(code, args, turns, most, number))
        self.assertGreater(words.count("alike"), 1000)
        self.assertGreater(words.count("cry"), 1000)
        self.assertGreater(words.count("tired"), 5)

    def test_each_turn_of_a_small_code(self):
        # Adds up box 0, with looks and a mark where ways meet.
        code = harden([("num", 2, 1, 1, 1), ("fork", 0, 2, 5), ("op", 2, "+", 2, 2, 0, 3), ("out", 2, 4),
                       ("op", 2, "-", 0, 0, 1, 1), ("back", 2)])
        number = delay(code)
        base = twin(code, [2])
        self.assertEqual(base[:3], ("back", [2, 3], 3))
        words = []
        for step in range(base[3] + 1):
            for bit in list(range(6)) + [47]:
                for what in [("mark", bit), ("place", bit)] + [("box", side, box, bit)
                                                              for side in (0, 1) for box in range(4)]:
                    for most in (400, base[3] - 2):
                        words.append(self.promised(code, [2], [(step, what)], most, number))
        self.assertGreater(words.count("cry"), 500)

    def test_turns_that_are_nearer_than_the_delay_may_harm(self):
        # Why they must be so far apart: here both sides are turned, one step behind the other.
        code = [("num", 2, 1, 1, 1), ("num", 2, 1, 1, 2), ("back", 0)]
        self.assertEqual(delay(code), 3)
        self.assertEqual(trial(code, [2], [(0, ("box", 0, 0, 5)), (2, ("box", 1, 0, 5))]), ("else", None))

    def test_code_that_has_no_delay_with_one_turn(self):
        chance = random.Random(102)
        found = []
        for k in range(3000):
            code = made_code(chance)
            args = made_args(chance)
            most = chance.choice((0, 2, 5, 20, 60))
            base = twin(code, args, None, most)
            if delay(code) is None and base[0] != "cry":
                turn = (chance.randint(0, base[3]), made_what(chance, code))
                now = twin(code, args, [turn], most)
                self.assertEqual(base[1][:len(now[1])], now[1], (code, args, turn, most))
                if now[0] == "back":
                    self.assertEqual(now, base, (code, args, turn, most))
                found.append((base[0], now[0]))
        # One more: harm that goes round for ever, where all was well.
        code = [("num", 2, 1, 1, 1), ("fork", 0, 1, 2), ("back", 0), ("copy", 2, 0, 0, 3)]
        self.assertIsNone(delay(code))
        self.assertEqual(twin(code, [0], [(1, ("place", 1))]), ("tired", [], None, 400))
        self.assertEqual(twin(code, [0]), ("back", [], 0, 3))
        for pair in (("back", "back"), ("back", "cry"), ("tired", "tired"), ("tired", "cry")):
            self.assertGreater(found.count(pair), 20, pair)


class Programs(Case):
    def alike(self, plain, args, hardened, most):
        """Without turns hardened code, thinned or not, does what the plain code does, each step in at most eleven."""
        found = twin(hardened, args, None, 11 * most)
        self.assertNotEqual(found[0], "cry")
        self.assertEqual(found[1][:len(plain[1])], plain[1])
        if plain[0] == "back":
            self.assertEqual(found[:3], plain[:3])
            self.assertLessEqual(found[3], 11 * plain[3])

    def test_without_turns(self):
        chance = random.Random(202)
        words = []
        for k in range(250):
            text = made_text(chance, 12)
            program, code, number = guard(text)
            hardened = harden(flat(program))
            self.assertEqual(number, delay(hardened))
            for again in range(3):
                args = [chance.choice(FEW) for param in program[0]]
                most = chance.choice((0, 1, 5, 40, 100))
                plain = walk(program, args, most)
                words.append(plain[0])
                self.assertEqual(run(flat(program), args, most), plain)
                self.alike(plain, args, hardened, most)
                self.alike(plain, args, code, most)
        self.assertGreater(words.count("back"), 200)
        self.assertGreater(words.count("tired"), 100)

    def test_with_turns(self):
        chance = random.Random(302)
        words = []
        for k in range(200):
            program, code, number = guard(made_text(chance, 12))
            hardened = harden(flat(program))
            for some in (code, hardened, thin(hardened, number + chance.randint(1, 12)), thin(hardened, 3000)):
                own = delay(some)
                for again in range(4):
                    args = [chance.choice(FEW) for param in program[0]]
                    most = chance.choice((0, 3, 10, 60, 200))
                    turns = made_turns(chance, some, own, twin(some, args, None, most)[3])
                    words.append(self.promised(some, args, turns, most, own))
        self.assertGreater(words.count("alike"), 500)
        self.assertGreater(words.count("cry"), 500)

    def test_delays_and_what_is_needed(self):
        chance = random.Random(402)
        stayed = 0
        for k in range(50):
            text = made_text(chance, 12)
            own = guard(text)[2]
            for asked in (None, own, own + 1, own + 5, 3000):
                program, code, number = guard(text, asked)
                self.assertEqual(number, own if asked is None else asked)
                self.assertTrue(fits(code))
                self.assertLessEqual(delay(code), number)
                for place in [place for place in range(len(code)) if can_go(code, place)][:6]:
                    stayed += 1
                    way = need(code, place, number)
                    self.assertEqual(len(way), number + 1)
                    self.assertIn(delay(without(code, place)), [None] + list(range(number + 1, 3001)))
        self.assertGreater(stayed, 150)

    def test_hardened_code_of_programs_of_more_statements(self):
        chance = random.Random(502)
        for k in range(60):
            program = read(made_text(chance, 60))
            hardened = harden(flat(program))
            number = delay(hardened)
            self.assertIsNotNone(number)
            args = [chance.choice(FEW) for param in program[0]]
            self.alike(walk(program, args, 200), args, hardened, 200)
            turns = made_turns(chance, hardened, number, 60)
            self.promised(hardened, args, turns, 600, number)

    def test_hardened_plain_code_that_is_of_no_program(self):
        chance = random.Random(602)
        delayed = 0
        for k in range(150):
            code = made_plain_code(chance, chance.randint(1, 20))
            hardened = harden(code)
            self.assertTrue(fits(hardened))
            args = made_args(chance)
            plain = run(code, args, 60)
            self.alike(plain, args, hardened, 60)
            number = delay(hardened)
            if number is not None:
                delayed += 1
                thinned = thin(hardened, number + chance.choice((0, 4)))
                self.alike(plain, args, thinned, 60)
                for some in (hardened, thinned):
                    turns = made_turns(chance, some, delay(some), 30)
                    self.promised(some, args, turns, 200, delay(some))
        self.assertGreater(delayed, 100)

    def test_a_walk_of_the_begin(self):
        # Where the program is one while that begins at place 0 and its name is never 0, it is tired, not crying.
        program, code, number = guard("in a\nwhile a {\n}\nback a")
        self.assertEqual(walk(program, [1], 50), ("tired", [], None, 50))
        self.assertEqual(twin(code, [1], None, 50), ("tired", [], None, 50))
        self.assertEqual(trial(code, [1], [(7, ("box", 0, 0, 0))], 50)[0], "cried")


class AsLongAsARunGoes(Case):
    def test_the_mark_and_the_place(self):
        chance = random.Random(25)
        for k in range(600):
            code = made_code(chance)
            machine = Twin(code, made_args(chance))
            made = 0
            for steps in range(chance.choice((3, 20, 60))):
                if chance.random() < 0.2 and machine.told()[0] == "":
                    what = made_what(chance, code)
                    machine.turn(what)
                    made ^= 0 if what[0] == "box" else 1 << what[1]
                self.assertEqual(machine.mark() ^ machine.place(), made)
                machine.step()

    def test_what_is_harmed_lasts_as_is_told_at_most(self):
        chance = random.Random(125)
        counted = {"box": 0, "mark": 0, "place": 0}
        for k in range(2500):
            code = made_code(chance)
            args = made_args(chance)
            base = twin(code, args, None, 40)
            if base[0] != "cry":
                what = made_what(chance, code)
                counted[what[0]] += self.followed(code, args, chance.randint(0, base[3]), what)
        for word in ("box", "mark", "place"):
            self.assertGreater(counted[word], 300)

    def followed(self, code, args, step, what):
        """Turn a bit, and follow the harm step by step beside a machine without turns; gives how many steps it went."""
        clean, machine = Twin(code, args), Twin(code, args)
        for steps in range(step):
            clean.step()
            machine.step()
        machine.turn(what)
        if machine.told()[0] == "" and machine.place() >= len(code):
            machine.step()
            self.assertEqual(machine.told()[0], "cry")
            return 1
        lively = live(code)
        harms = self.harmed(lively, clean, machine)
        known = delays(code)
        for steps in range(30):
            now = self.harmed(lively, clean, machine)
            self.assertLessEqual(set(now), set(harms), (code, args, step, what))
            if machine.told()[0] != "" or not harms:
                return steps
            if known is not None:
                self.assertLessEqual(max(known[harm] for harm in harms) + steps, delay(code))
            clean.step()
            machine.step()
            later = [other for harm in harms for other in lasts(code, harm)]
            harms = [harm for harm in later if harm[0] == machine.place()]
        return 30

    def harmed(self, lively, clean, machine):
        """The harms at a machine's place: the mark alone where it is harmed, else the live spots that are."""
        if machine.told()[0] != "":
            return []
        place = machine.place()
        if machine.mark() != place:
            return [(place, "mark")]
        self.assertEqual(place, clean.place())
        return [(place, spot) for spot in lively[place] if machine.box(*spot) != clean.box(*spot)]


if __name__ == "__main__":
    unittest.main()
