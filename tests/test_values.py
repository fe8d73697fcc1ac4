"""values.py ([10])."""

import itertools
import unittest

from shadowruns import values
from shadowruns.rests import rest_add, rest_div, rest_mod, rest_mul, rest_sub
from shadowruns.spans import span_add, span_div, span_mod, span_mul, span_sub, span_widen
from shadowruns.values import (
    EVERY, contains, single, value_apply, value_join, value_meet, value_of, value_widen, value_within,
)

HUGE = 10 ** 24
WIDTH = 60
SIGNS = {
    "add": (span_add, rest_add, lambda a, b: a + b), "sub": (span_sub, rest_sub, lambda a, b: a - b),
    "mul": (span_mul, rest_mul, lambda a, b: a * b), "div": (span_div, rest_div, lambda a, b: a // b),
    "mod": (span_mod, rest_mod, lambda a, b: a % b),
}


def made_values():
    """Values with each kind of bounds and rests."""
    found = []
    bounds = (None, -5, -2, 0, 1, 7)
    for low, high, m in itertools.product(bounds, bounds, (0, 1, 2, 3, 6)):
        if low is None or high is None or low <= high:
            for r in ((-2, 0, 1, 7) if m == 0 else range(m)):
                value = value_of(low, high, m, r)
                if value is not None and value not in found:
                    found.append(value)
    return found


def window(value, width=WIDTH):
    """The integers of a value within a window."""
    low, high, m, r = value
    bottom = -width if low is None else low
    top = width if high is None else high
    return [n for n in range(bottom, top + 1) if (n == r if m == 0 else n % m == r)]


VALUES = made_values()
SOME = VALUES[::5]


class Examples(unittest.TestCase):
    def test_of_the_document(self):
        self.assertEqual(value_of(1, 10, 4, 3), (3, 7, 4, 3))
        self.assertEqual(value_of(1, 6, 4, 3), (3, 3, 0, 3))
        self.assertIsNone(value_of(4, 5, 4, 3))
        self.assertEqual(value_join(single(3), single(7)), (3, 7, 4, 3))
        self.assertEqual(value_apply("mod", (3, 11, 4, 3), single(6)), (1, 5, 2, 1))
        self.assertEqual(value_apply("div", (3, 11, 4, 3), single(4)), (0, 2, 1, 0))


class Making(unittest.TestCase):
    def test_every(self):
        self.assertEqual(EVERY, (None, None, 1, 0))
        self.assertTrue(contains(EVERY, 0) and contains(EVERY, HUGE) and contains(EVERY, -HUGE))

    def test_single(self):
        for n in (0, 5, -5, HUGE, -HUGE):
            self.assertEqual(single(n), (n, n, 0, n))

    def test_value_of(self):
        for row, expected in [
            ((None, None, 1, 0), EVERY), ((None, None, 4, 3), (None, None, 4, 3)), ((None, 10, 4, 3), (None, 7, 4, 3)),
            ((0, None, 4, 3), (3, None, 4, 3)), ((3, 7, 4, 3), (3, 7, 4, 3)), ((3, 3, 1, 0), single(3)),
            ((-6, -2, 4, 3), single(-5)), ((-5, -1, 4, 3), (-5, -1, 4, 3)), ((None, None, 0, 9), single(9)),
            ((9, None, 0, 9), single(9)), ((None, 9, 0, 9), single(9)), ((10, None, 0, 9), None),
            ((None, 8, 0, 9), None),
            ((9, 9, 0, 9), single(9)), ((8, 8, 1, 0), single(8)), ((8, 8, 3, 0), None), ((8, 9, 3, 0), single(9)),
            ((HUGE, HUGE + 10, HUGE, 3), single(HUGE + 3)), ((-HUGE, HUGE, HUGE, 0), (-HUGE, HUGE, HUGE, 0)),
        ]:
            self.assertEqual(value_of(*row), expected, row)

    def test_value_of_has_the_common_integers(self):
        bounds = (None, -4, -1, 0, 3, 8)
        for low, high, m in itertools.product(bounds, bounds, range(7)):
            if low is None or high is None or low <= high:
                for r in ((-4, 0, 2, 9) if m == 0 else range(m)):
                    common = window((low, high, m, r))
                    value = value_of(low, high, m, r)
                    self.assertEqual([] if value is None else window(value), common)

    def test_the_form(self):
        for low, high, m, r in VALUES:
            self.assertEqual(m == 0, low is not None and low == high)
            for bound in (low, high):
                self.assertTrue(bound is None or (bound == r if m == 0 else bound % m == r))

    def test_one_value_for_each_set(self):
        self.assertEqual(len({tuple(window(value)) for value in VALUES}), len(VALUES))


class Comparing(unittest.TestCase):
    def test_contains(self):
        for value in VALUES:
            inside = set(window(value))
            for n in range(-WIDTH, WIDTH + 1):
                self.assertIs(contains(value, n), n in inside, (value, n))
        self.assertTrue(contains((HUGE, None, 7, HUGE % 7), HUGE + 7))
        self.assertFalse(contains((HUGE, None, 7, HUGE % 7), HUGE - 7))

    def test_within(self):
        for one, other in itertools.product(VALUES, VALUES[::2]):
            expected = set(window(one)) <= set(window(other))
            self.assertIs(value_within(one, other), expected, (one, other))

    def test_join(self):
        for one, other in itertools.product(VALUES[::2], VALUES[::3]):
            joined = value_join(one, other)
            self.assertTrue(value_within(one, joined) and value_within(other, joined))
            self.assertEqual(value_join(other, one), joined)
            for third in SOME:
                if value_within(one, third) and value_within(other, third):
                    self.assertTrue(value_within(joined, third), (one, other, third))

    def test_join_of_small_windows(self):
        finite = [value for value in VALUES if None not in value[:2]]
        for one, other in itertools.product(finite, finite[::2]):
            both = sorted(set(window(one) + window(other)))
            joined = value_join(one, other)
            self.assertEqual((joined[0], joined[1]), (both[0], both[-1]))
            steps = [n - both[0] for n in both]
            self.assertTrue(all(n % joined[2] == 0 if joined[2] else n == 0 for n in steps))
            if joined[2]:
                self.assertFalse([m for m in range(joined[2] + 1, 15) if all(n % m == 0 for n in steps)])

    def test_meet(self):
        for one, other in itertools.product(VALUES, VALUES[::2]):
            common = sorted(set(window(one)) & set(window(other)))
            met = value_meet(one, other)
            self.assertEqual([] if met is None else window(met), common, (one, other))
        self.assertEqual(value_meet((0, None, 4, 0), (None, 40, 6, 0)), (0, 36, 12, 0))
        self.assertEqual(value_meet((1, 9, 4, 1), (3, 9, 3, 0)), single(9))
        self.assertIsNone(value_meet((0, 4, 4, 0), (1, 3, 1, 0)))
        self.assertIsNone(value_meet((0, 4, 2, 0), (1, None, 2, 1)))


class Applying(unittest.TestCase):
    def test_add_sub_mul_by_their_words(self):
        for sign in ("add", "sub", "mul"):
            of_spans, of_rests, _ = SIGNS[sign]
            for one, other in itertools.product(VALUES[::2], SOME):
                expected = value_of(*of_spans(one[:2], other[:2]), *of_rests(one[2:], other[2:]))
                self.assertEqual(value_apply(sign, one, other), expected)

    def test_div_and_mod_by_their_words(self):
        for sign in ("div", "mod"):
            of_spans, of_rests, _ = SIGNS[sign]
            for one, other in itertools.product(VALUES[::2], SOME):
                found = []
                for part in (value_meet(other, (1, None, 1, 0)), value_meet(other, (None, -1, 1, 0))):
                    if part is not None:
                        found.append(value_of(*of_spans(one[:2], part[:2]), *of_rests(one[2:], part[2:])))
                expected = found[0] if len(found) == 1 else value_join(*found) if found else None
                self.assertEqual(value_apply(sign, one, other), expected, (sign, one, other))

    def test_all_results_of_small_windows(self):
        for sign, (_, _, operation) in SIGNS.items():
            for one, other in itertools.product(VALUES[::3], SOME):
                found = value_apply(sign, one, other)
                for a, b in itertools.product(window(one, 20), window(other, 20)):
                    if b or sign not in ("div", "mod"):
                        self.assertTrue(contains(found, operation(a, b)), (sign, one, other, a, b))

    def test_single_integers(self):
        for sign, (_, _, operation) in SIGNS.items():
            for a, b in itertools.product(range(-9, 10), repeat=2):
                expected = single(operation(a, b)) if b or sign not in ("div", "mod") else None
                self.assertEqual(value_apply(sign, single(a), single(b)), expected)

    def test_divisors(self):
        for value in SOME:
            self.assertIsNone(value_apply("div", value, single(0)))
            self.assertIsNone(value_apply("mod", value, single(0)))
        # 0 and 6: the divisor is 6 alone
        self.assertEqual(value_apply("mod", (3, 15, 12, 3), (0, 6, 6, 0)), single(3))
        self.assertEqual(value_apply("div", (6, 18, 12, 6), (0, 6, 6, 0)), (1, 3, 2, 1))
        # -2 and 2: two single divisors
        self.assertEqual(value_apply("div", (4, 8, 4, 0), (-2, 2, 4, 2)), (-4, 4, 2, 0))
        self.assertEqual(value_apply("div", (4, 8, 4, 0), (-2, 0, 2, 0)), (-4, -2, 2, 0))
        self.assertEqual(value_apply("mod", (1, 7, 2, 1), (-2, 2, 4, 2)), (-1, 1, 2, 1))
        self.assertEqual(value_apply("mod", (1, 7, 2, 1), (-4, 2, 2, 0)), (-3, 1, 2, 1))
        self.assertEqual(value_apply("mod", EVERY, EVERY), EVERY)
        self.assertEqual(value_apply("div", (0, 10, 1, 0), (1, None, 1, 0)), (0, 10, 1, 0))

    def test_huge_numbers(self):
        self.assertEqual(value_apply("add", (HUGE, None, 6, 4), (1, 9, 4, 1)), (HUGE + 1, None, 2, 1))
        self.assertEqual(value_apply("mul", single(HUGE), (-HUGE, HUGE, 1, 0)), (-HUGE ** 2, HUGE ** 2, HUGE, 0))
        self.assertEqual(value_apply("div", (0, HUGE ** 2, HUGE, 0), single(HUGE)), (0, HUGE, 1, 0))
        self.assertEqual(value_apply("mod", (5, None, HUGE, 5), single(HUGE)), single(5))


class Widening(unittest.TestCase):
    def test_by_its_words(self):
        for one, other in itertools.product(VALUES[::2], VALUES[::3]):
            if value_within(one, other):
                for marks in ((), (0,), (-6, 8), (-9, -5, 0, 7, 12)):
                    expected = value_of(*span_widen(one[:2], other[:2], marks), *other[2:])
                    found = value_widen(one, other, marks)
                    self.assertEqual(found, expected, (one, other, marks))
                    self.assertTrue(value_within(other, found))

    def test_rows(self):
        self.assertEqual(value_widen(single(0), (0, 2, 2, 0), ()), (0, None, 2, 0))
        self.assertEqual(value_widen(single(0), (0, 2, 2, 0), (5, 9)), (0, 4, 2, 0))
        self.assertEqual(value_widen(single(0), (0, 2, 2, 0), (2,)), (0, 2, 2, 0))
        self.assertEqual(value_widen(single(0), (-4, 2, 2, 0), (-7, 9)), (-6, 8, 2, 0))
        self.assertEqual(value_widen((0, 8, 4, 0), (0, 8, 2, 0), (9,)), (0, 8, 2, 0))
        self.assertEqual(value_widen(single(3), single(3), (9,)), single(3))


class General(unittest.TestCase):
    def test_lists_names_and_unchanged_arguments(self):
        for one, other in itertools.product(SOME, SOME):
            left, right = list(one), list(other)
            for name in ("value_within", "value_join", "value_meet"):
                function = getattr(values, name)
                found = function(other=right, one=left)
                self.assertEqual(found, function(one, other))
                self.assertIn(type(found), (tuple, bool, type(None)))
            for sign in SIGNS:
                found = value_apply(other=right, one=left, sign=sign)
                self.assertEqual(found, value_apply(sign, one, other))
                self.assertIn(type(found), (tuple, type(None)))
            if value_within(one, other):
                found = value_widen(marks=[-9, 9], other=right, one=left)
                self.assertEqual(found, value_widen(one, other, (-9, 9)))
                self.assertIs(type(found), tuple)
            self.assertIs(contains(n=2, value=left), contains(one, 2))
            self.assertEqual((left, right), (list(one), list(other)))

    def test_names(self):
        self.assertEqual(single(n=4), (4, 4, 0, 4))
        self.assertEqual(value_of(r=3, m=4, high=10, low=1), (3, 7, 4, 3))


if __name__ == "__main__":
    unittest.main()
