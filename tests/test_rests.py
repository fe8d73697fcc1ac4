"""rests.py ([9])."""

import itertools
import math
import unittest

from shadowruns import rests
from shadowruns.rests import rest_add, rest_div, rest_join, rest_meet, rest_mod, rest_mul, rest_sub

RESTS = [(0, r) for r in range(-7, 8)] + [(m, r) for m in range(1, 8) for r in range(m)]
WIDE = [(0, -30), (0, 60), (12, 5), (30, 24), (1, 0)]
P, Q = 10 ** 21 + 7, 10 ** 22 + 9
PAIRS = list(itertools.product(RESTS + WIDE, repeat=2))


def window(rest, width=4):
    """Some integers of a rest on both sides of 0, enough to tell it from others."""
    m, r = rest
    return [r] if m == 0 else [r + k * m for k in range(-width, width + 1)]


def least(numbers):
    """The least rest that contains all these integers."""
    m = math.gcd(*[n - numbers[0] for n in numbers])
    return (m, numbers[0] % m if m else numbers[0])


class Examples(unittest.TestCase):
    def test_of_the_document(self):
        self.assertEqual(rest_join((0, 4), (0, 10)), (6, 4))
        self.assertEqual(rest_meet((4, 1), (6, 3)), (12, 9))
        self.assertEqual(rest_mul((4, 2), (6, 3)), (12, 6))
        self.assertIsNone(rest_meet((2, 0), (2, 1)))
        self.assertEqual(rest_div((6, 4), (0, 3)), (2, 1))
        self.assertEqual(rest_div((4, 1), (0, 6)), (1, 0))
        self.assertEqual(rest_mod((4, 1), (0, 6)), (2, 1))
        self.assertEqual(rest_mod((6, 4), (6, 2)), (2, 0))


class All(unittest.TestCase):
    def test_join(self):
        for one, other in PAIRS:
            self.assertEqual(rest_join(one, other), least(window(one) + window(other)), (one, other))

    def test_meet(self):
        for one, other in PAIRS:
            common = sorted(set(window(one, 70)) & set(window(other, 70)))
            found = rest_meet(one, other)
            if found is None:
                self.assertEqual(common, [], (one, other))
            else:
                self.assertEqual(found, least(common), (one, other))

    def test_add_sub_mul(self):
        for function, operation in (
            (rest_add, lambda a, b: a + b), (rest_sub, lambda a, b: a - b), (rest_mul, lambda a, b: a * b),
        ):
            for one, other in PAIRS:
                expected = least([operation(a, b) for a in window(one, 2) for b in window(other, 2)])
                self.assertEqual(function(one, other), expected, (function.__name__, one, other))

    def test_div(self):
        for one, other in PAIRS:
            (m, _), (n, d) = one, other
            found = rest_div(one, other)
            if other == (0, 0):
                self.assertIsNone(found)
            elif n == 0 and (m == 0 or m % d == 0):
                self.assertEqual(found, least([a // d for a in window(one)]), (one, other))
            else:
                self.assertEqual(found, (1, 0), (one, other))

    def test_mod(self):
        for one, other in PAIRS:
            (m, r), (n, s) = one, other
            found = rest_mod(one, other)
            if other == (0, 0):
                self.assertIsNone(found)
            elif m == n == 0:
                self.assertEqual(found, (0, r % s))
            else:
                g = math.gcd(math.gcd(m, n), s)
                self.assertEqual(found, (g, r % g), (one, other))
                self.assertTrue(all(a % b % g == found[1] for a in window(one) for b in window(other) if b))


class Single(unittest.TestCase):
    def test_join(self):
        self.assertEqual(rest_join((0, 4), (0, 4)), (0, 4))
        self.assertEqual(rest_join((0, -1), (0, 6)), (7, 6))
        self.assertEqual(rest_join((6, 1), (0, 5)), (2, 1))
        self.assertEqual(rest_join((0, -5), (6, 1)), (6, 1))
        self.assertEqual(rest_join((4, 1), (6, 2)), (1, 0))

    def test_meet(self):
        self.assertEqual(rest_meet((0, -5), (6, 1)), (0, -5))
        self.assertEqual(rest_meet((6, 1), (0, 7)), (0, 7))
        self.assertIsNone(rest_meet((6, 1), (0, 8)))
        self.assertIsNone(rest_meet((0, 8), (6, 1)))
        self.assertIsNone(rest_meet((0, 8), (0, 9)))
        self.assertEqual(rest_meet((0, 8), (0, 8)), (0, 8))
        self.assertEqual(rest_meet((1, 0), (5, 3)), (5, 3))
        self.assertEqual(rest_meet((5, 3), (5, 3)), (5, 3))
        self.assertIsNone(rest_meet((4, 1), (6, 2)))

    def test_results(self):
        self.assertEqual(rest_add((0, -3), (0, 5)), (0, 2))
        self.assertEqual(rest_add((0, -3), (5, 1)), (5, 3))
        self.assertEqual(rest_sub((0, -3), (5, 1)), (5, 1))
        self.assertEqual(rest_sub((4, 1), (6, 2)), (2, 1))
        self.assertEqual(rest_mul((0, 0), (5, 1)), (0, 0))
        self.assertEqual(rest_mul((0, -3), (5, 1)), (15, 12))
        self.assertEqual(rest_mul((1, 0), (0, 7)), (7, 0))
        self.assertEqual(rest_mul((2, 1), (2, 1)), (2, 1))
        self.assertEqual(rest_div((0, -7), (0, 2)), (0, -4))
        self.assertEqual(rest_div((0, 7), (0, -2)), (0, -4))
        self.assertEqual(rest_div((6, 5), (0, -3)), (2, 0))
        self.assertEqual(rest_div((6, 5), (0, -1)), (6, 1))
        self.assertEqual(rest_div((0, 0), (5, 1)), (1, 0))
        self.assertEqual(rest_div((6, 0), (6, 0)), (1, 0))
        self.assertEqual(rest_mod((0, -7), (0, 2)), (0, 1))
        self.assertEqual(rest_mod((0, 7), (0, -4)), (0, -1))
        self.assertEqual(rest_mod((6, 5), (0, -4)), (2, 1))
        self.assertEqual(rest_mod((0, 11), (6, 2)), (2, 1))
        self.assertEqual(rest_mod((0, 11), (6, 0)), (6, 5))
        self.assertEqual(rest_mod((6, 5), (1, 0)), (1, 0))


class Huge(unittest.TestCase):
    def test_huge_numbers(self):
        met = rest_meet((P, 5), (Q, 11))
        self.assertEqual((met[0], met[1] % P, met[1] % Q), (P * Q, 5, 11))
        met = rest_meet((6 * P, 5), (6 * Q, 11))
        self.assertEqual((met[0], met[1] % (6 * P), met[1] % (6 * Q)), (6 * P * Q, 5, 11))
        self.assertIsNone(rest_meet((6 * P, 5), (6 * Q, 10)))
        self.assertEqual(rest_join((0, P), (0, 3 * P)), (2 * P, P))
        self.assertEqual(rest_add((6 * P, 1), (4 * P, P)), (2 * P, P + 1))
        self.assertEqual(rest_mul((0, P), (0, -Q)), (0, -P * Q))
        self.assertEqual(rest_mul((0, P), (3, 2)), (3 * P, 2 * P))
        self.assertEqual(rest_div((6 * P, 4 * P), (0, 2 * P)), (3, 2))
        self.assertEqual(rest_mod((0, Q), (0, P)), (0, Q % P))
        self.assertEqual(rest_mod((6 * P, 5), (0, 4 * P)), (2 * P, 5))


class General(unittest.TestCase):
    NAMES = ("rest_join", "rest_meet", "rest_add", "rest_sub", "rest_mul", "rest_div", "rest_mod")

    def test_lists_names_and_unchanged_arguments(self):
        for name in self.NAMES:
            function = getattr(rests, name)
            for one, other in itertools.product(RESTS[::2], RESTS[::3]):
                left, right = list(one), list(other)
                found = function(other=right, one=left)
                self.assertEqual(found, function(one, other))
                self.assertIn(type(found), (tuple, type(None)))
                self.assertEqual((left, right), (list(one), list(other)))

    def test_results_are_rests(self):
        for name in self.NAMES:
            function = getattr(rests, name)
            for one, other in PAIRS:
                found = function(one, other)
                if found is not None:
                    m, r = found
                    self.assertTrue(m == 0 or 0 <= r < m, (name, one, other))


if __name__ == "__main__":
    unittest.main()
