"""pieces.py ([12])."""

import random
import unittest

from shadowruns import pieces as module
from shadowruns.pieces import (
    pieces_join, pieces_meet, pieces_read, pieces_widen, pieces_within, pieces_write, same_pieces,
)
from shadowruns.values import EVERY, contains, single, value_join, value_meet, value_of, value_widen, value_within
from tests.samples import as_lists, has_list

ZERO, FOUR, FIVE = single(0), single(4), single(5)
SOME = [ZERO, FOUR, FIVE, (0, 4, 4, 0), (0, 4, 1, 0), (0, None, 1, 0), (None, 5, 1, 0), (None, None, 2, 0), EVERY]
INDEXES = [
    EVERY, single(0), single(2), single(5), single(-1), single(6), (1, 3, 1, 0), (1, 3, 2, 1), (-3, 1, 1, 0),
    (4, None, 1, 0), (None, 1, 1, 0), (None, None, 4, 3), (-7, -1, 1, 0), (6, None, 1, 0), (-2, 8, 5, 3), (0, 5, 5, 0),
    (-4, 0, 4, 0), (5, 10 ** 30, 1, 0), (None, None, 10 ** 25, 1),
]


def items(pieces):
    """The values of all items, one after the other."""
    found = []
    for end, value in pieces:
        found.extend([value] * (end - len(found)))
    return found


def of_items(values):
    """The pieces with these items."""
    ends = [k + 1 for k in range(len(values)) if k + 1 == len(values) or values[k + 1] != values[k]]
    return tuple((end, values[end - 1]) for end in ends)


def drawn(chance, many, values=SOME):
    found = [chance.choice(values)]
    while len(found) < many:
        found.append(chance.choice(values) if chance.random() < 0.5 else found[-1])
    return of_items(found)


def drawings(seed, many):
    chance = random.Random(seed)
    for _ in range(many):
        n = chance.randint(1, 6)
        yield chance, drawn(chance, n), drawn(chance, n)


def joined(values):
    found = values[0]
    for value in values[1:]:
        found = value_join(found, value)
    return found


class Examples(unittest.TestCase):
    def test_of_the_document(self):
        self.assertEqual(pieces_write(((6, ZERO),), single(2), FIVE), ((2, ZERO), (3, FIVE), (6, ZERO)))
        self.assertEqual(pieces_write(((6, ZERO),), (1, 3, 2, 1), single(7)), (
            (1, ZERO), (2, (0, 7, 7, 0)), (3, ZERO), (4, (0, 7, 7, 0)), (6, ZERO),
        ))
        self.assertEqual(pieces_read(((2, FOUR), (6, ZERO)), (-3, 1, 1, 0)), FOUR)


class ReadAndWrite(unittest.TestCase):
    def test_same(self):
        self.assertEqual(same_pieces(1, FIVE), ((1, FIVE),))
        self.assertEqual(same_pieces(12, EVERY), ((12, EVERY),))

    def test_read(self):
        pieces = ((1, ZERO), (3, FOUR), (6, single(10)))
        for index, value in [
            (single(0), ZERO), (single(1), FOUR), (single(2), FOUR), (single(3), single(10)), (single(5), single(10)),
            (single(-1), None), (single(6), None), ((-5, -1, 1, 0), None), ((6, None, 1, 0), None),
            ((0, 2, 1, 0), (0, 4, 4, 0)), ((0, 4, 4, 0), (0, 10, 10, 0)), ((1, 2, 1, 0), FOUR), (EVERY, (0, 10, 2, 0)),
            ((None, 1, 1, 0), (0, 4, 4, 0)), ((2, None, 1, 0), (4, 10, 6, 4)), ((None, None, 7, 2), FOUR),
            ((None, None, 7, 6), None), ((-2, 8, 5, 3), single(10)), ((-1, 6, 7, 6), None),
        ]:
            self.assertEqual(pieces_read(pieces, index), value, index)

    def test_write_of_one_item(self):
        for index, expected in [
            (single(0), ((1, FIVE), (6, ZERO))), (single(5), ((5, ZERO), (6, FIVE))),
            ((-4, 0, 4, 0), ((1, FIVE), (6, ZERO))),
            ((5, None, 1, 0), ((5, ZERO), (6, FIVE))), ((None, 0, 1, 0), ((1, FIVE), (6, ZERO))),
            ((-2, 8, 5, 3), ((3, ZERO), (4, FIVE), (6, ZERO))),
        ]:
            self.assertEqual(pieces_write(((6, ZERO),), index, FIVE), expected)
        self.assertEqual(pieces_write(((1, ZERO),), EVERY, FIVE), ((1, FIVE),))

    def test_write_of_several_items(self):
        for index, expected in [
            (EVERY, ((6, (0, 5, 5, 0)),)), ((0, 1, 1, 0), ((2, (0, 5, 5, 0)), (6, ZERO))),
            ((4, 99, 1, 0), ((4, ZERO), (6, (0, 5, 5, 0)))), ((-9, 1, 1, 0), ((2, (0, 5, 5, 0)), (6, ZERO))),
            ((0, 5, 5, 0), ((1, (0, 5, 5, 0)), (5, ZERO), (6, (0, 5, 5, 0)))),
        ]:
            self.assertEqual(pieces_write(((6, ZERO),), index, FIVE), expected)

    def test_write_of_no_item(self):
        for index in (single(-1), single(6), (-9, -1, 1, 0), (6, None, 1, 0), (None, None, 10 ** 25, 10 ** 24),
            (-1, 6, 7, 6)):
            self.assertIsNone(pieces_write(((2, FOUR), (6, ZERO)), index, FIVE))

    def test_neighbours_become_equal(self):
        self.assertEqual(pieces_write(((2, ZERO), (3, FIVE), (6, ZERO)), single(2), ZERO), ((6, ZERO),))
        self.assertEqual(pieces_write(((2, FIVE), (6, ZERO)), single(2), FIVE), ((3, FIVE), (6, ZERO)))
        self.assertEqual(pieces_write(((2, FIVE), (6, ZERO)), (1, 2, 1, 0), FIVE),
            ((2, FIVE), (3, (0, 5, 5, 0)), (6, ZERO)))
        self.assertEqual(pieces_write(((2, FIVE), (3, ZERO)), EVERY, (0, 5, 5, 0)), ((3, (0, 5, 5, 0)),))
        self.assertEqual(pieces_write(((6, ZERO),), EVERY, ZERO), ((6, ZERO),))

    def test_both_are_as_items_are(self):
        for chance, pieces, _ in drawings(1, 150):
            values = items(pieces)
            for index in INDEXES:
                new = chance.choice(SOME)
                hit = [k for k in range(len(values)) if contains(index, k)]
                read, written = pieces_read(pieces, index), pieces_write(pieces, index, new)
                if not hit:
                    self.assertIsNone(read)
                    self.assertIsNone(written)
                    continue
                self.assertEqual(read, joined([values[k] for k in hit]))
                after = [new if len(hit) == 1 else value_join(value, new) for value in values]
                expected = [after[k] if k in hit else value for k, value in enumerate(values)]
                self.assertEqual(written, of_items(expected))


class Both(unittest.TestCase):
    UNLIKE = (((2, ZERO), (6, FOUR)), ((3, FOUR), (5, ZERO), (6, FOUR)))

    def test_join(self):
        one, other = self.UNLIKE
        self.assertEqual(pieces_join(one, other), ((2, (0, 4, 4, 0)), (3, FOUR), (5, (0, 4, 4, 0)), (6, FOUR)))
        self.assertEqual(pieces_join(((2, ZERO), (6, FOUR)), ((2, FOUR), (6, ZERO))), ((6, (0, 4, 4, 0)),))
        self.assertEqual(pieces_join(((1, ZERO),), ((1, ZERO),)), ((1, ZERO),))

    def test_meet(self):
        one, other = self.UNLIKE
        self.assertIsNone(pieces_meet(one, other))
        wide = ((4, (0, 4, 4, 0)), (6, EVERY))
        self.assertEqual(pieces_meet(one, wide), one)
        self.assertEqual(pieces_meet(wide, one), one)
        self.assertIsNone(pieces_meet(((5, EVERY), (6, ZERO)), ((6, FOUR),)))
        self.assertIsNone(pieces_meet(((1, ZERO), (6, EVERY)), ((6, FOUR),)))
        self.assertEqual(pieces_meet(((1, (0, 4, 2, 0)), (2, (None, 3, 1, 0))), ((2, (0, 9, 1, 0)),)),
                         ((1, (0, 4, 2, 0)), (2, (0, 3, 1, 0))))
        self.assertEqual(pieces_meet(((1, (0, 4, 2, 0)), (2, (None, 4, 2, 0))), ((2, (0, 9, 1, 0)),)),
            ((2, (0, 4, 2, 0)),))

    def test_within(self):
        self.assertIs(pieces_within(((6, ZERO),), ((2, ZERO), (6, (0, 4, 4, 0)))), True)
        self.assertIs(pieces_within(((6, ZERO),), ((2, ZERO), (6, FOUR))), False)
        self.assertIs(pieces_within(((2, ZERO), (6, FOUR)), ((6, (0, 4, 4, 0)),)), True)
        self.assertIs(pieces_within(((2, ZERO), (6, FIVE)), ((6, (0, 4, 4, 0)),)), False)
        self.assertIs(pieces_within(((5, ZERO), (6, FIVE)), ((6, (0, 4, 4, 0)),)), False)
        self.assertIs(pieces_within(((1, FIVE), (6, ZERO)), ((6, (0, 4, 4, 0)),)), False)

    def test_widen(self):
        self.assertEqual(pieces_widen(((6, ZERO),), ((6, (0, 4, 4, 0)),), ()), ((6, (0, None, 4, 0)),))
        self.assertEqual(pieces_widen(((6, ZERO),), ((6, (0, 4, 4, 0)),), (10,)), ((6, (0, 8, 4, 0)),))
        # the end 2 is not in both: 0 to 4 on both sides, nothing passes
        self.assertEqual(pieces_widen(((2, ZERO), (6, FOUR)), ((6, (0, 4, 4, 0)),), ()), ((6, (0, 4, 4, 0)),))
        self.assertEqual(pieces_widen(((6, ZERO),), ((2, ZERO), (6, (0, 4, 4, 0))), ()), ((6, (0, None, 4, 0)),))
        self.assertEqual(pieces_widen(((2, ZERO), (6, FOUR)), ((2, ZERO), (6, (4, 5, 1, 0))), (9,)),
            ((2, ZERO), (6, (4, 9, 1, 0))))
        self.assertEqual(
            pieces_widen(((1, ZERO), (4, FOUR), (6, ZERO)), ((2, (0, 4, 4, 0)), (4, FOUR), (6, (0, 1, 1, 0))), ()),
            ((4, (0, 4, 4, 0)), (6, (0, None, 1, 0))),
        )

    def test_widened_neighbours_become_equal(self):
        one, other = ((1, ZERO), (2, (0, 1, 1, 0))), ((1, (0, 1, 1, 0)), (2, (0, 2, 1, 0)))
        self.assertEqual(pieces_widen(one, other, ()), ((2, (0, None, 1, 0)),))
        self.assertEqual(pieces_widen(one, other, (1, 5)), ((1, (0, 1, 1, 0)), (2, (0, 5, 1, 0))))

    def test_all_are_as_items_are(self):
        seen = {True: 0, False: 0}
        for _, one, other in drawings(2, 600):
            pairs = list(zip(items(one), items(other)))
            self.assertEqual(pieces_join(one, other), of_items([value_join(a, b) for a, b in pairs]))
            met = [value_meet(a, b) for a, b in pairs]
            seen[None in met] += 1
            self.assertEqual(pieces_meet(one, other), None if None in met else of_items(met))
            self.assertIs(pieces_within(one, other), all(value_within(a, b) for a, b in pairs))
            self.assertIs(pieces_within(one, pieces_join(one, other)), True)
        self.assertGreater(min(seen.values()), 50)

    def test_widen_by_its_words(self):
        for chance, one, more in drawings(3, 600):
            other = pieces_join(one, more)
            marks = chance.choice([(), (-3, 4, 9), (0, 5)])
            shared = [end for end, _ in one if end in [end for end, _ in other]]
            values, start = [], 0
            for end in shared:
                low, high = joined(items(one)[start:end]), joined(items(other)[start:end])
                values.extend([value_widen(low, high, marks)] * (end - start))
                start = end
            self.assertEqual(pieces_widen(one, other, marks), of_items(values))
            self.assertTrue(pieces_within(other, pieces_widen(one, other, marks)))


class General(unittest.TestCase):
    def test_lists_names_and_unchanged_arguments(self):
        one, other = ((2, ZERO), (6, FOUR)), ((3, (0, 4, 4, 0)), (6, EVERY))
        left, right, index, value = as_lists(one), as_lists(other), [1, 3, 2, 1], list(FIVE)
        for found, expected in [
            (same_pieces(value=value, n=3), ((3, FIVE),)),
            (pieces_read(index=index, pieces=left), pieces_read(one, (1, 3, 2, 1))),
            (pieces_write(value=value, index=index, pieces=left), pieces_write(one, (1, 3, 2, 1), FIVE)),
            (pieces_write(left, [2, 2, 0, 2], value), ((2, ZERO), (3, FIVE), (6, FOUR))),
            (pieces_within(other=right, one=left), True),
            (pieces_join(other=right, one=left), pieces_join(one, other)),
            (pieces_meet(other=right, one=left), pieces_meet(one, other)),
            (pieces_widen(marks=[9], other=right, one=left), pieces_widen(one, other, (9,))),
        ]:
            self.assertEqual(found, expected)
            self.assertFalse(has_list(found) or isinstance(found, list))
        self.assertEqual((left, right, index, value), (as_lists(one), as_lists(other), [1, 3, 2, 1], list(FIVE)))

    def test_parts_that_stay_are_tuples(self):
        for name in ("pieces_join", "pieces_meet"):
            found = getattr(module, name)([[2, list(FIVE)]], [[2, list(FIVE)]])
            self.assertEqual(found, ((2, FIVE),))
            self.assertFalse(has_list(found))
        self.assertFalse(has_list(pieces_widen([[2, list(FIVE)]], [[2, list(FIVE)]], [])))
        self.assertIs(type(pieces_read([[2, list(FIVE)]], [0, 0, 0, 0])), tuple)

    def test_wide_values(self):
        huge = value_of(10 ** 22, None, 10 ** 21, 7)
        self.assertEqual(pieces_write(((2, huge),), single(0), ZERO), ((1, ZERO), (2, huge)))
        self.assertEqual(pieces_read(((1, ZERO), (2, huge)), EVERY), value_join(ZERO, huge))


if __name__ == "__main__":
    unittest.main()
