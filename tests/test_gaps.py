"""gaps.py ([11])."""

import itertools
import random
import unittest

from shadowruns import gaps as module
from shadowruns.gaps import (
    gaps_bound, gaps_closed, gaps_join, gaps_meet, gaps_moved, gaps_widen, gaps_within, gaps_without, no_gaps,
)
from tests.samples import as_lists, has_list

FREE = (None, None)
FAR = 2345678901234
ONE = ((0, 2, None), (None, 0, 3), (-4, None, 0))
OTHER = ((0, 4, None), (5, 0, 2), (-4, None, 0))


def drawn(chance, k, bounds):
    """Gaps of k variables by chance."""
    return tuple(tuple(0 if i == j else chance.choice(bounds) for j in range(k)) for i in range(k))


def drawn_span(chance, width):
    low, high = sorted([chance.randint(-width, width), chance.randint(-width, width)])
    return low, high


def least_sum(gaps, spans, start, stop):
    """The least sum of bounds along all ways from one variable to another; len(gaps) is 0 itself."""
    k = len(gaps)

    def bound(i, j):
        if i == k:
            return None if spans[j][0] is None else -spans[j][0]
        return spans[i][1] if j == k else gaps[i][j]

    sums = []
    others = [i for i in range(k + 1) if i not in (start, stop)]
    for many in range(len(others) + 1):
        for between in itertools.permutations(others, many):
            way = (start, *between, stop)
            steps = [bound(i, j) for i, j in zip(way, way[1:])]
            if None not in steps:
                sums.append(sum(steps))
    return min(sums, default=None)


def solutions(gaps, spans):
    """All integers that fulfil bounds and spans that have no None."""
    for numbers in itertools.product(*[range(low, high + 1) for low, high in spans]):
        pairs = itertools.product(range(len(numbers)), repeat=2)
        if all(gaps[i][j] is None or numbers[i] - numbers[j] <= gaps[i][j] for i, j in pairs):
            yield numbers


class Closed(unittest.TestCase):
    def test_example_of_the_document(self):
        self.assertEqual(
            gaps_closed(((0, 2, None), (None, 0, 3), (None, None, 0)), [(0, 9), (None, None), (None, 1)]),
            (((0, 2, 5), (4, 0, 3), (1, 3, 0)), [(0, 6), (-2, 4), (-5, 1)]),
        )

    def test_no_variable(self):
        self.assertEqual(gaps_closed((), []), ((), []))

    def test_one_variable(self):
        for span in (FREE, (3, None), (None, 3), (2, 9), (4, 4)):
            self.assertEqual(gaps_closed(((0,),), [span]), (((0,),), [span]))

    def test_bounds_follow_through_other_variables(self):
        chain = ((0, 1, None, None), (None, 0, 2, None), (None, None, 0, 4), (None, None, None, 0))
        self.assertEqual(gaps_closed(chain, [FREE] * 4), (
            ((0, 1, 3, 7), (None, 0, 2, 6), (None, None, 0, 4), (None, None, None, 0)), [FREE] * 4,
        ))
        chain = ((0, None, None, None), (1, 0, None, None), (None, 2, 0, None), (None, None, 4, 0))
        self.assertEqual(gaps_closed(chain, [FREE] * 4)[0][3], (7, 6, 4, 0))

    def test_bounds_follow_from_spans(self):
        self.assertEqual(gaps_closed(no_gaps(2), [(1, 5), (2, 9)]), (((0, 3), (8, 0)), [(1, 5), (2, 9)]))
        self.assertEqual(gaps_closed(no_gaps(2), [(None, 5), (2, None)]), (((0, 3), (None, 0)), [(None, 5), (2, None)]))
        self.assertEqual(gaps_closed(no_gaps(2), [(1, None), (2, None)]), (no_gaps(2), [(1, None), (2, None)]))
        self.assertEqual(gaps_closed(((0, 9), (None, 0)), [(1, 5), (2, 9)])[0], ((0, 3), (8, 0)))

    def test_spans_follow_in_both_directions(self):
        self.assertEqual(gaps_closed(((0, 3), (None, 0)), [FREE, (None, 5)]),
            (((0, 3), (None, 0)), [(None, 8), (None, 5)]))
        self.assertEqual(gaps_closed(((0, 3), (None, 0)), [(10, None), FREE]),
            (((0, 3), (None, 0)), [(10, None), (7, None)]))
        self.assertEqual(gaps_closed(((0, -3), (None, 0)), [(0, None), (None, 9)])[1], [(0, 6), (3, 9)])

    def test_rings(self):
        below = ((0, 2), (-3, 0))
        self.assertIsNone(gaps_closed(below, [FREE, FREE]))
        self.assertEqual(gaps_closed(((0, 2), (-2, 0)), [FREE, (4, None)]), (((0, 2), (-2, 0)), [(6, None), (4, None)]))
        three = ((0, 1, None), (None, 0, 1), (-3, None, 0))
        self.assertIsNone(gaps_closed(three, [FREE] * 3))
        three = ((0, 1, None), (None, 0, 1), (-2, None, 0))
        self.assertEqual(gaps_closed(three, [FREE] * 3)[0], ((0, 1, 2), (-1, 0, 1), (-2, -1, 0)))

    def test_rings_through_spans(self):
        self.assertIsNone(gaps_closed(((0, 2), (None, 0)), [(5, None), (None, 2)]))
        self.assertIsNotNone(gaps_closed(((0, 3), (None, 0)), [(5, None), (None, 2)]))
        self.assertIsNone(gaps_closed(((0, None), (-4, 0)), [(None, 3), (0, None)]))
        self.assertIsNone(gaps_closed(((0, -1, None), (None, 0, -1), (None, None, 0)), [(0, None), FREE, (None, 1)]))

    def test_long_bounds(self):
        gaps = ((0, FAR, None), (None, 0, -3 * FAR), (None, None, 0))
        self.assertEqual(gaps_closed(gaps, [FREE, FREE, (None, 5)]), (
            ((0, FAR, -2 * FAR), (None, 0, -3 * FAR), (None, None, 0)),
            [(None, 5 - 2 * FAR), (None, 5 - 3 * FAR), (None, 5)],
        ))
        self.assertIsNone(gaps_closed(((0, FAR), (-FAR - 1, 0)), [FREE, FREE]))
        self.assertIsNotNone(gaps_closed(((0, 10 ** 30), (-10 ** 30, 0)), [FREE, FREE]))

    def test_least_sums_along_all_ways(self):
        chance = random.Random(3)
        seen = {True: 0, False: 0}
        for _ in range(600):
            k = chance.randint(2, 4)
            gaps = drawn(chance, k, [None, None, -3, -1, 0, 1, 2, 5])
            spans = [chance.choice([FREE, FREE, (0, None), (None, 4), (-5, 5), (2, 3)]) for _ in range(k)]
            rings = [[(i, j) for j in range(k + 1) if j != i] for i in range(k + 1)]
            found = gaps_closed(gaps, spans)
            sums = {(i, j): least_sum(gaps, spans, i, j) for row in rings for i, j in row}
            broken = any(
                sums[i, j] is not None and sums[j, i] is not None and sums[i, j] + sums[j, i] < 0 for i, j in sums)
            seen[broken] += 1
            self.assertEqual(found is None, broken)
            if found is not None:
                expected = tuple(tuple(0 if i == j else sums[i, j] for j in range(k)) for i in range(k))
                bounds = [(None if sums[k, i] is None else -sums[k, i], sums[i, k]) for i in range(k)]
                self.assertEqual(found, (expected, bounds))
        self.assertGreater(min(seen.values()), 50)

    def test_the_integers_of_small_windows(self):
        chance = random.Random(5)
        seen = {True: 0, False: 0}
        for _ in range(400):
            k = chance.randint(1, 3)
            gaps = drawn(chance, k, [None, -3, -2, -1, 0, 1, 2])
            spans = [drawn_span(chance, 4) for _ in range(k)]
            numbers = list(solutions(gaps, spans))
            found = gaps_closed(gaps, spans)
            seen[found is None] += 1
            if found is None:
                self.assertEqual(numbers, [])
                continue
            expected = tuple(tuple(max(row[i] - row[j] for row in numbers) for j in range(k)) for i in range(k))
            bounds = [(min(row[i] for row in numbers), max(row[i] for row in numbers)) for i in range(k)]
            self.assertEqual(found, (expected, bounds))
        self.assertGreater(min(seen.values()), 50)

    def test_an_order_that_is_exchanged(self):
        chance = random.Random(9)
        for _ in range(200):
            gaps = drawn(chance, 4, [None, None, -1, 0, 2, 5])
            spans = [chance.choice([FREE, (0, None), (None, 4), (-5, 5)]) for _ in range(4)]
            order = chance.sample(range(4), 4)
            turned = tuple(tuple(gaps[i][j] for j in order) for i in order)
            found = gaps_closed(gaps, spans)
            other = gaps_closed(turned, [spans[i] for i in order])
            if found is None:
                self.assertIsNone(other)
            else:
                expected = tuple(tuple(found[0][i][j] for j in order) for i in order)
                self.assertEqual(other, (expected, [found[1][i] for i in order]))

    def test_closed_ones_stay(self):
        chance = random.Random(11)
        for _ in range(200):
            gaps = drawn(chance, 3, [None, -1, 0, 2, 5])
            found = gaps_closed(gaps, [chance.choice([FREE, (0, None), (-5, 5)]) for _ in range(3)])
            if found is not None:
                self.assertEqual(gaps_closed(*found), found)


class OthersCloseNothing(unittest.TestCase):
    def test_no_gaps(self):
        self.assertEqual(no_gaps(0), ())
        self.assertEqual(no_gaps(1), ((0,),))
        self.assertEqual(no_gaps(3), ((0, None, None), (None, 0, None), (None, None, 0)))

    def test_within(self):
        self.assertIs(gaps_within((), ()), True)
        for a, b, expected in [(1, 2, True), (2, 2, True), (3, 2, False), (None, 2, False), (2, None, True),
            (None, None, True)]:
            self.assertIs(gaps_within(((0, a), (7, 0)), ((0, b), (7, 0))), expected)
            self.assertIs(gaps_within(((0, 7), (a, 0)), ((0, 7), (b, 0))), expected)
        # the first one has no integers, but its bounds are not below those of the other one
        self.assertIs(gaps_within(((0, 2), (-3, 0)), ((0, 1), (None, 0))), False)

    def test_join(self):
        self.assertEqual(gaps_join(ONE, OTHER), ((0, 4, None), (None, 0, 3), (-4, None, 0)))
        self.assertEqual(gaps_join(OTHER, ONE), gaps_join(ONE, OTHER))
        self.assertEqual(gaps_join((), ()), ())
        self.assertEqual(gaps_join(((0, -5), (2, 0)), ((0, -3), (1, 0))), ((0, -3), (2, 0)))

    def test_meet(self):
        self.assertEqual(gaps_meet(ONE, OTHER), ((0, 2, None), (5, 0, 2), (-4, None, 0)))
        self.assertEqual(gaps_meet(OTHER, ONE), gaps_meet(ONE, OTHER))
        self.assertEqual(gaps_meet((), ()), ())
        self.assertEqual(gaps_meet(((0, 2), (None, 0)), ((0, None), (-3, 0))), ((0, 2), (-3, 0)))

    def test_widen(self):
        self.assertEqual(gaps_widen(ONE, OTHER), ((0, None, None), (None, 0, 3), (-4, None, 0)))
        self.assertEqual(gaps_widen(OTHER, ONE), ((0, 4, None), (None, 0, None), (-4, None, 0)))
        self.assertEqual(gaps_widen(((0, 2), (2, 0)), ((0, None), (2, 0))), ((0, None), (2, 0)))
        self.assertEqual(gaps_widen((), ()), ())

    def test_without(self):
        gaps = ((0, 1, 2), (3, 0, 4), (5, 6, 0))
        self.assertEqual(gaps_without(gaps, 0), ((0, None, None), (None, 0, 4), (None, 6, 0)))
        self.assertEqual(gaps_without(gaps, 1), ((0, None, 2), (None, 0, None), (5, None, 0)))
        self.assertEqual(gaps_without(gaps, 2), ((0, 1, None), (3, 0, None), (None, None, 0)))
        self.assertEqual(gaps_without(((0,),), 0), ((0,),))

    def test_moved(self):
        gaps = ((0, 1, None), (3, 0, 4), (5, None, 0))
        self.assertEqual(gaps_moved(gaps, 0, 10), ((0, 11, None), (-7, 0, 4), (-5, None, 0)))
        self.assertEqual(gaps_moved(gaps, 1, -2), ((0, 3, None), (1, 0, 2), (5, None, 0)))
        self.assertEqual(gaps_moved(gaps, 2, 0), gaps)
        self.assertEqual(gaps_moved(((0,),), 0, 7), ((0,),))
        self.assertEqual(gaps_moved(((0, FAR), (FAR, 0)), 1, FAR), ((0, 0), (2 * FAR, 0)))

    def test_moved_numbers(self):
        chance = random.Random(13)
        for _ in range(100):
            gaps = drawn(chance, 3, [None, -2, 0, 1, 3])
            i, n = chance.randrange(3), chance.randint(-4, 4)
            moved = gaps_moved(gaps, i, n)
            for numbers in itertools.product(range(-2, 3), repeat=3):
                after = tuple(number + n * (k == i) for k, number in enumerate(numbers))
                pairs = [(a, b) for a in range(3) for b in range(3)]
                before_holds = all(gaps[a][b] is None or numbers[a] - numbers[b] <= gaps[a][b] for a, b in pairs)
                after_holds = all(moved[a][b] is None or after[a] - after[b] <= moved[a][b] for a, b in pairs)
                self.assertEqual(before_holds, after_holds)

    def test_bound(self):
        gaps = ((0, 1, None), (3, 0, 4), (5, None, 0))
        self.assertEqual(gaps_bound(gaps, 0, 1, 0), ((0, 0, None), (3, 0, 4), (5, None, 0)))
        self.assertEqual(gaps_bound(gaps, 0, 1, 1), gaps)
        self.assertEqual(gaps_bound(gaps, 0, 1, 2), gaps)
        self.assertEqual(gaps_bound(gaps, 2, 1, -9), ((0, 1, None), (3, 0, 4), (5, -9, 0)))
        self.assertEqual(gaps_bound(gaps, 0, 2, 9), ((0, 1, 9), (3, 0, 4), (5, None, 0)))
        self.assertEqual(gaps_bound(((0, 1), (3, 0)), 1, 0, -5), ((0, 1), (-5, 0)))


class General(unittest.TestCase):
    def test_lists_names_and_unchanged_arguments(self):
        one, other = as_lists(ONE), as_lists(OTHER)
        spans = [[0, 9], [None, None], [None, 3]]
        for found, expected in [
            (gaps_closed(spans=spans, gaps=one), gaps_closed(ONE, ((0, 9), FREE, (None, 3)))),
            (gaps_closed(spans=((0, 9), (None, None), (None, 3)), gaps=ONE), gaps_closed(ONE, spans)),
            (gaps_join(other=other, one=one), gaps_join(ONE, OTHER)),
            (gaps_meet(other=other, one=one), gaps_meet(ONE, OTHER)),
            (gaps_widen(other=other, one=one), gaps_widen(ONE, OTHER)),
            (gaps_without(i=1, gaps=one), gaps_without(ONE, 1)),
            (gaps_moved(n=4, i=1, gaps=one), gaps_moved(ONE, 1, 4)),
            (gaps_bound(n=-4, j=2, i=1, gaps=one), gaps_bound(ONE, 1, 2, -4)),
            (no_gaps(k=3), no_gaps(3)), (gaps_within(other=other, one=one), False),
        ]:
            self.assertEqual(found, expected)
        self.assertEqual((one, other, spans), (as_lists(ONE), as_lists(OTHER), [[0, 9], [None, None], [None, 3]]))

    def test_kinds_of_values(self):
        lists = as_lists(ONE)
        gaps, spans = gaps_closed(lists, [[0, 9], [None, None], [None, 3]])
        self.assertFalse(has_list(gaps))
        self.assertIs(type(spans), list)
        self.assertTrue(all(type(span) is tuple for span in spans))
        for name, more in (("gaps_join", [lists]), ("gaps_meet", [lists]), ("gaps_widen", [lists]),
                           ("gaps_without", [1]), ("gaps_moved", [1, 0]), ("gaps_bound", [0, 1, 99])):
            found = getattr(module, name)(lists, *more)
            self.assertIs(type(found), tuple, name)
            self.assertFalse(has_list(found), name)

    def test_changed_results_change_nothing(self):
        first = gaps_closed(ONE, [FREE] * 3)
        kept = list(first[1])
        first[1].clear()
        self.assertEqual(gaps_closed(ONE, [FREE] * 3)[1], kept)


if __name__ == "__main__":
    unittest.main()
