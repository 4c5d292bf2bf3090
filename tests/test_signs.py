import random
import unittest

from turnguard.signs import value

END = 2 ** 48
LAST = END - 1
SIGNS = "+ - * / < = & | ^".split(" ")
EDGES = (0, 1, 2, 3, 2 ** 24, 2 ** 47 - 1, 2 ** 47, LAST - 1, LAST)


def drawn_pairs():
    chance = random.Random(6)
    pairs = []
    for k in range(600):
        one, other = chance.randrange(END), chance.randrange(END)
        small = chance.randrange(2 ** chance.randint(1, 48))
        pairs += [(one, other), (one, small), (small, one), (one, one)]
    return pairs


PAIRS = [(one, other) for one in EDGES for other in EDGES] + drawn_pairs()


def bits(number):
    return [int(figure) for figure in format(number, "048b")]


def of_bits(figures):
    return int("".join(str(figure) for figure in figures), 2)


class Values(unittest.TestCase):
    def check(self, rows):
        for sign, one, other, expected in rows:
            self.assertEqual(value(sign, one, other), expected, (sign, one, other))

    def test_ordinary_values(self):
        self.check([("+", 12, 10, 22), ("-", 12, 10, 2), ("*", 12, 10, 120), ("/", 12, 10, 1), ("<", 12, 10, 0),
                    ("=", 12, 10, 0), ("&", 12, 10, 8), ("|", 12, 10, 14), ("^", 12, 10, 6),
                    ("/", 120, 10, 12), ("/", 119, 10, 11), ("/", 10, 12, 0), ("<", 10, 12, 1), ("=", 12, 12, 1)])

    def test_at_nought(self):
        self.check([(sign, 0, 0, 1 if sign == "=" else 0) for sign in SIGNS])
        self.check([("+", 0, 7, 7), ("+", 7, 0, 7), ("-", 7, 0, 7), ("*", 0, 7, 0), ("*", 7, 0, 0), ("/", 0, 7, 0),
                    ("<", 0, 7, 1), ("<", 7, 0, 0), ("=", 0, 7, 0), ("=", 7, 0, 0), ("&", 7, 0, 0), ("|", 7, 0, 7),
                    ("^", 0, 7, 7)])

    def test_at_one(self):
        self.check(list(zip(SIGNS, [1] * 9, [1] * 9, [2, 0, 1, 1, 0, 1, 1, 1, 0])))
        self.check(list(zip(SIGNS, [1] * 9, [0] * 9, [1, 1, 0, 0, 0, 0, 0, 1, 1])))
        self.check(list(zip(SIGNS, [0] * 9, [1] * 9, [1, LAST, 0, 0, 1, 0, 0, 1, 1])))

    def test_at_the_last_value(self):
        self.check(list(zip(SIGNS, [LAST] * 9, [LAST] * 9, [LAST - 1, 0, 1, 1, 0, 1, LAST, LAST, 0])))
        self.check(list(zip(SIGNS, [LAST] * 9, [1] * 9, [0, LAST - 1, LAST, LAST, 0, 0, 1, LAST, LAST - 1])))
        self.check(list(zip(SIGNS, [1] * 9, [LAST] * 9, [0, 2, LAST, 0, 1, 0, 1, LAST, LAST - 1])))
        self.check(list(zip(SIGNS, [LAST] * 9, [0] * 9, [LAST, LAST, 0, 0, 0, 0, 0, LAST, LAST])))
        self.check(list(zip(SIGNS, [0] * 9, [LAST] * 9, [LAST, 1, 0, 0, 1, 0, 0, LAST, LAST])))

    def test_sums_beyond_the_last_value(self):
        self.check([("+", 2 ** 47, 2 ** 47 - 1, LAST), ("+", 2 ** 47, 2 ** 47, 0), ("+", LAST, 5, 4)])

    def test_differences_below_nought(self):
        self.check([("-", 0, 1, LAST), ("-", 3, 5, LAST - 1), ("-", 0, LAST, 1), ("-", LAST - 1, LAST, LAST),
                    ("-", 0, 2 ** 47, 2 ** 47)])

    def test_products_beyond_the_last_value(self):
        self.check([("*", 2 ** 24, 2 ** 24, 0), ("*", 2 ** 24 + 1, 2 ** 24, 2 ** 24), ("*", 2 ** 47, 2, 0),
                    ("*", 2 ** 47, 3, 2 ** 47), ("*", LAST, 2, LAST - 1), ("*", 2 ** 47, 2 ** 47, 0),
                    ("*", 2 ** 24 - 1, 2 ** 24 + 1, LAST)])

    def test_division_by_nought(self):
        for one in EDGES:
            self.check([("/", one, 0, 0)])

    def test_division_of_great_values_is_whole(self):
        self.check([("/", LAST, 2, 2 ** 47 - 1), ("/", LAST, LAST - 1, 1), ("/", LAST - 1, LAST, 0),
                    ("/", LAST, 3, 93824992236885), ("/", LAST - 1, 3, 93824992236884)])

    def test_sum_difference_product_over_the_whole_range(self):
        for one, other in PAIRS:
            for sign, beyond in (("+", one + other), ("-", one - other), ("*", one * other)):
                got = value(sign, one, other)
                self.assertTrue(0 <= got < END, (sign, one, other))
                self.assertEqual((beyond - got) % END, 0, (sign, one, other))

    def test_division_over_the_whole_range(self):
        for one, other in PAIRS:
            if other:
                often = value("/", one, other)
                self.assertTrue(often * other <= one < (often + 1) * other, (one, other))

    def test_comparisons_over_the_whole_range(self):
        for one, other in PAIRS:
            self.check([("<", one, other, int(bits(one) < bits(other))),
                        ("=", one, other, int(bits(one) == bits(other)))])

    def test_bit_by_bit_over_the_whole_range(self):
        for one, other in PAIRS:
            both = list(zip(bits(one), bits(other)))
            self.check([("&", one, other, of_bits([int(a + b == 2) for a, b in both])),
                        ("|", one, other, of_bits([int(a + b > 0) for a, b in both])),
                        ("^", one, other, of_bits([int(a + b == 1) for a, b in both]))])

    def test_always_a_value_that_is_no_truth(self):
        for one, other in PAIRS:
            for sign in SIGNS:
                got = value(sign, one, other)
                self.assertIs(type(got), int)
                self.assertTrue(0 <= got < END)


if __name__ == "__main__":
    unittest.main()
