"""spans.py ([8])."""

import itertools
import unittest

from shadowruns import spans
from shadowruns.spans import (
    span_add, span_div, span_join, span_meet, span_mod, span_mul, span_sub, span_widen,
)

HUGE = 10 ** 25
NEAR, FAR = 40, 90
BOUNDS = [None, -7, -3, -1, 0, 1, 2, 6]
SPANS = [(low, high) for low in BOUNDS for high in BOUNDS if low is None or high is None or low <= high]
OPERATIONS = {
    span_add: lambda a, b: a + b, span_sub: lambda a, b: a - b, span_mul: lambda a, b: a * b,
    span_div: lambda a, b: a // b,
}


def window(span, width):
    """The integers of a span within a window."""
    low, high = span
    return range(-width if low is None else low, (width if high is None else high) + 1)


def results(operation, one, other, width):
    """The least and the greatest result within a window, None if there is none."""
    zero_is_out = operation(6, 3) == 2
    found = [operation(a, b) for a in window(one, width) for b in window(other, width) if b or not zero_is_out]
    return (min(found), max(found)) if found else None


def least(operation, one, other):
    """The least span of all results: what grows with the window has no bound."""
    near, far = results(operation, one, other, NEAR), results(operation, one, other, FAR)
    if far is None:
        return None
    return tuple(near[k] if near[k] == far[k] else None for k in (0, 1))


class Examples(unittest.TestCase):
    def test_of_the_document(self):
        self.assertEqual(span_mul((-2, 3), (4, None)), (None, None))
        self.assertEqual(span_div((-7, 7), (2, 3)), (-4, 3))
        self.assertEqual(span_mod((13, 17), (6, 6)), (1, 5))
        self.assertEqual(span_mod((-1, 9), (3, 5)), (0, 4))
        self.assertIsNone(span_div((1, 9), (0, 0)))
        self.assertEqual(span_widen((0, 3), (0, 4), (10, 100)), (0, 10))
        self.assertEqual(span_widen((0, 3), (-1, 3), (10,)), (None, 3))


class JoinAndMeet(unittest.TestCase):
    def test_join(self):
        for one, other, joined in [
            ((1, 2), (5, 6), (1, 6)), ((5, 6), (1, 2), (1, 6)), ((1, 9), (3, 4), (1, 9)), ((3, 3), (3, 3), (3, 3)),
            ((None, 2), (5, 6), (None, 6)), ((1, None), (-5, 6), (-5, None)), ((None, 0), (3, None), (None, None)),
            ((None, None), (1, 1), (None, None)), ((-HUGE, 0), (0, HUGE), (-HUGE, HUGE)),
        ]:
            self.assertEqual(span_join(one, other), joined)
            self.assertEqual(span_join(other, one), joined)

    def test_meet(self):
        for one, other, common in [
            ((1, 2), (5, 6), None), ((1, 5), (5, 6), (5, 5)), ((1, 9), (3, 4), (3, 4)), ((None, 2), (1, None), (1, 2)),
            ((None, 2), (3, None), None), ((None, 2), (None, 7), (None, 2)), ((4, None), (9, None), (9, None)),
            ((None, None), (None, None), (None, None)), ((None, None), (0, 3), (0, 3)),
            ((-HUGE, HUGE), (HUGE, None), (HUGE, HUGE)), ((HUGE + 1, None), (None, HUGE), None),
        ]:
            self.assertEqual(span_meet(one, other), common)
            self.assertEqual(span_meet(other, one), common)

    def test_both_are_as_their_integers_are(self):
        for one, other in itertools.product(SPANS, SPANS):
            common = set(window(one, NEAR)) & set(window(other, NEAR))
            met, joined = span_meet(one, other), span_join(one, other)
            self.assertEqual(set() if met is None else set(window(met, NEAR)), common)
            both = [n for span in (one, other) for n in window(span, NEAR)]
            self.assertEqual(list(window(joined, NEAR)), list(range(min(both), max(both) + 1)))


class Arithmetic(unittest.TestCase):
    def test_all_results_of_small_windows(self):
        for one, other in itertools.product(SPANS, SPANS):
            for function, operation in OPERATIONS.items():
                with self.subTest(function=function.__name__, one=one, other=other):
                    self.assertEqual(function(one, other), least(operation, one, other))

    def test_huge_bounds(self):
        self.assertEqual(span_add((-HUGE, HUGE), (HUGE, None)), (0, None))
        self.assertEqual(span_sub((1, HUGE), (-HUGE, 2)), (-1, 2 * HUGE))
        self.assertEqual(span_sub((None, HUGE), (-HUGE, None)), (None, 2 * HUGE))
        self.assertEqual(span_mul((-HUGE, 3), (-HUGE, HUGE)), (-HUGE ** 2, HUGE ** 2))
        self.assertEqual(span_mul((-HUGE, -3), (2, None)), (None, -6))
        self.assertEqual(span_div((HUGE, HUGE ** 2), (10 ** 20, HUGE)), (1, 10 ** 30))
        self.assertEqual(span_div((-HUGE, HUGE), (10 ** 20, None)), (-10 ** 5, 10 ** 5))
        self.assertEqual(span_div((3, 3), (HUGE, None)), (0, 0))
        self.assertEqual(span_div((-3, 3), (HUGE, None)), (-1, 0))

    def test_zero_times_no_bound(self):
        self.assertEqual(span_mul((0, 0), (None, None)), (0, 0))
        self.assertEqual(span_mul((None, None), (0, 0)), (0, 0))
        self.assertEqual(span_mul((0, 5), (1, None)), (0, None))
        self.assertEqual(span_mul((None, 0), (0, None)), (None, 0))
        self.assertEqual(span_mul((None, 0), (None, -1)), (0, None))

    def test_divisors(self):
        self.assertEqual(span_div((7, 9), (0, 2)), (3, 9))
        self.assertEqual(span_div((7, 9), (-2, 0)), (-9, -4))
        self.assertEqual(span_div((7, 9), (-1, 2)), (-9, 9))
        self.assertEqual(span_div((7, 9), (None, None)), (-9, 9))
        self.assertEqual(span_div((-9, -7), (3, None)), (-3, -1))
        self.assertEqual(span_div((None, -7), (3, 4)), (None, -2))
        self.assertEqual(span_div((7, None), (-4, -3)), (None, -2))
        for one in SPANS:
            self.assertIsNone(span_div(one, (0, 0)))
            self.assertIsNone(span_mod(one, (0, 0)))


class Remainders(unittest.TestCase):
    def rows(self, rows):
        for one, other, expected in rows:
            with self.subTest(one=one, other=other):
                self.assertEqual(span_mod(one, other), expected)

    def test_first_case_one_divisor_and_one_quotient(self):
        self.rows([
            ((13, 17), (6, 6), (1, 5)), ((12, 17), (6, 6), (0, 5)), ((-5, -2), (6, 6), (1, 4)),
            ((-6, -6), (6, 6), (0, 0)),
            ((14, 14), (5, 5), (4, 4)), ((HUGE + 1, HUGE + 7), (10, 10), (1, 7)), ((3, 4), (HUGE, HUGE), (3, 4)),
            ((5, 5), (1, 1), (0, 0)),
        ])

    def test_first_case_needs_all_of_it(self):
        self.rows([
            ((13, 18), (6, 6), (0, 5)), ((11, 17), (6, 6), (0, 5)), ((-1, 0), (6, 6), (0, 5)),
            ((13, 17), (6, 7), (0, 6)), ((13, None), (6, 6), (0, 5)), ((None, 17), (6, 6), (0, 5)),
            ((None, None), (6, 6), (0, 5)), ((14, 14), (5, 6), (0, 5)), ((14, 14), (5, None), (0, 14)),
        ])

    def test_second_case_less_than_all_divisors(self):
        self.rows([
            ((0, 2), (3, 5), (0, 2)), ((1, 2), (3, 5), (1, 2)), ((2, 2), (3, None), (2, 2)),
            ((0, 0), (1, None), (0, 0)),
            ((4, HUGE), (HUGE + 1, None), (4, HUGE)), ((2, 3), (3, 5), (0, 3)), ((-1, 2), (3, 5), (0, 4)),
            ((1, 2), (0, 5), (0, 2)), ((None, 2), (3, 5), (0, 4)),
        ])

    def test_third_case(self):
        self.rows([
            ((-1, 9), (3, 5), (0, 4)), ((0, 3), (3, 5), (0, 3)), ((0, 4), (3, 5), (0, 4)), ((0, 5), (3, 5), (0, 4)),
            ((0, None), (3, 5), (0, 4)), ((0, None), (3, None), (0, None)), ((2, 9), (3, None), (0, 9)),
            ((-2, 9), (3, None), (0, None)), ((None, 9), (3, None), (0, None)), ((None, None), (1, None), (0, None)),
            ((None, None), (1, 1), (0, 0)), ((5, 9), (2, 3), (0, 2)), ((0, HUGE), (1, HUGE), (0, HUGE - 1)),
            ((-1, 9), (0, 5), (0, 4)), ((-9, -7), (3, None), (0, None)),
        ])

    def test_divisors_below_zero(self):
        self.rows([
            ((-17, -13), (-6, -6), (-5, -1)), ((2, 5), (-6, -6), (-4, -1)), ((1, 7), (-6, -6), (-5, 0)),
            ((-2, 0), (-5, -3), (-2, 0)), ((-2, -1), (None, -3), (-2, -1)), ((-3, 0), (-5, -3), (-3, 0)),
            ((-9, 1), (-5, -3), (-4, 0)), ((-9, 0), (None, -3), (-9, 0)), ((-9, 1), (None, -3), (None, 0)),
            ((None, -1), (-5, -3), (-4, 0)), ((None, -1), (None, -3), (None, 0)), ((-9, 1), (-5, 0), (-4, 0)),
            ((14, 14), (-5, -5), (-1, -1)), ((None, None), (None, -1), (None, 0)),
        ])

    def test_divisors_on_both_sides(self):
        self.rows([
            ((13, 17), (-6, 6), (-5, 5)), ((4, 4), (-1, 1), (0, 0)), ((3, 4), (-2, 9), (-1, 4)),
            ((None, None), (None, None), (None, None)), ((0, 7), (None, None), (None, 7)),
            ((0, 0), (-4, 9), (0, 0)), ((2, 2), (-9, 9), (-8, 2)), ((5, 5), (None, 3), (None, 2)),
        ])

    def test_all_remainders_are_contained(self):
        for one, other in itertools.product(SPANS, SPANS):
            found = span_mod(one, other)
            rests = {a % b for a in window(one, NEAR) for b in window(other, NEAR) if b}
            if found is None:
                self.assertFalse(rests)
                continue
            low, high = found
            self.assertTrue(all((low is None or low <= n) and (high is None or n <= high) for n in rests))

    def test_mirrored(self):
        def mirrored(span):
            return tuple(None if bound is None else -bound for bound in reversed(span))
        for one, other in itertools.product(SPANS, SPANS):
            if other != (0, 0):
                self.assertEqual(span_mod(mirrored(one), mirrored(other)), mirrored(span_mod(one, other)))
                self.assertEqual(span_div(mirrored(one), mirrored(other)), span_div(one, other))


class Widening(unittest.TestCase):
    def rows(self, rows):
        for one, other, marks, expected in rows:
            with self.subTest(one=one, other=other, marks=marks):
                self.assertEqual(span_widen(one, other, marks), expected)

    def test_no_marks(self):
        self.rows([
            ((0, 3), (0, 3), (), (0, 3)), ((0, 3), (0, 4), (), (0, None)), ((0, 3), (-1, 3), (), (None, 3)),
            ((0, 3), (-1, 4), (), (None, None)), ((0, 3), (1, 2), (), (0, 3)), ((0, None), (0, 9), (), (0, None)),
            ((None, 3), (-9, 3), (), (None, 3)), ((0, 3), (None, None), (), (None, None)),
        ])

    def test_marks_above(self):
        self.rows([
            ((0, 3), (0, 4), (10,), (0, 10)), ((0, 3), (0, 10), (10,), (0, 10)), ((0, 3), (0, 11), (10,), (0, None)),
            ((0, 3), (0, 9), (4, 10, 20), (0, 10)), ((0, 3), (0, 10), (4, 10, 20), (0, 10)),
            ((0, 3), (0, 11), (4, 10, 20), (0, 20)), ((0, 3), (0, 4), (4, 10, 20), (0, 4)),
            ((0, 3), (0, 4), (1, 2, 3), (0, None)), ((0, 3), (0, None), (10,), (0, None)),
            ((0, 3), (0, 3), (10,), (0, 3)), ((0, None), (0, 4), (10,), (0, None)),
            ((0, 3), (0, HUGE), (HUGE, HUGE + 1), (0, HUGE)),
        ])

    def test_marks_below(self):
        self.rows([
            ((0, 3), (-4, 3), (-10,), (-10, 3)), ((0, 3), (-10, 3), (-10,), (-10, 3)),
            ((0, 3), (-11, 3), (-10,), (None, 3)),
            ((0, 3), (-9, 3), (-20, -10, -4), (-10, 3)), ((0, 3), (-4, 3), (-20, -10, -4), (-4, 3)),
            ((0, 3), (-1, 3), (0, 1), (None, 3)), ((0, 3), (None, 3), (-10,), (None, 3)),
            ((None, 3), (-4, 3), (-10,), (None, 3)), ((0, 3), (-HUGE, 3), (-HUGE, 0), (-HUGE, 3)),
        ])

    def test_marks_on_both_sides(self):
        self.rows([
            ((0, 3), (-2, 5), (-7, -2, 0, 3, 4, 8), (-2, 8)), ((0, 3), (-2, 5), (-1, 5), (None, 5)),
            ((0, 0), (-1, 1), (-1, 0, 1), (-1, 1)), ((2, 2), (0, 2), (0, 1, 2), (0, 2)),
        ])


class General(unittest.TestCase):
    def test_lists_names_and_unchanged_arguments(self):
        for name in ("span_join", "span_meet", "span_add", "span_sub", "span_mul", "span_div", "span_mod"):
            function = getattr(spans, name)
            for one, other in itertools.product(SPANS[::3], SPANS[::4]):
                left, right = list(one), list(other)
                found = function(other=right, one=left)
                self.assertEqual(found, function(one, other))
                self.assertIn(type(found), (tuple, type(None)))
                self.assertEqual((left, right), (list(one), list(other)))

    def test_widen_with_lists_and_names(self):
        one, other, marks = [0, 3], [-1, 4], [-5, 9]
        found = span_widen(marks=marks, other=other, one=one)
        self.assertEqual(found, (-5, 9))
        self.assertIs(type(found), tuple)
        self.assertEqual((one, other, marks), ([0, 3], [-1, 4], [-5, 9]))
        self.assertIs(type(span_widen([0, 3], [0, 3], [])), tuple)


if __name__ == "__main__":
    unittest.main()
