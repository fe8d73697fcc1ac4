"""states.py ([13]): beginnings, what is described, tightening, joins and meets, values of expressions."""

import itertools
import random
import unittest

from shadowruns.gaps import gaps_closed, gaps_join, gaps_meet, gaps_widen, no_gaps
from shadowruns.pieces import pieces_join, pieces_meet, pieces_widen
from shadowruns.states import (
    covers, entry_state, expression_value, state_join, state_meet, state_widen, state_within, tightened,
)
from shadowruns.values import EVERY, contains, single, value_join, value_meet, value_of, value_widen
from tests.samples import LOOP, ONE, X, Y, ZERO, as_lists, body, has_list

N0, N1, N5 = single(0), single(1), single(5)
TEN = (0, 10, 1, 0)
EVEN = (0, 10, 2, 0)
FROM0 = (0, None, 1, 0)
TWO_OF = body(parameters=("x", "y"), arrays=(("a", 3), ("b", 1)))
ZEROS = (((3, N0),), ((1, N0),))


def state(x, y, gaps=None, items=ZEROS):
    """A state of TWO_OF; gaps is the pair of the bounds of x - y and of y - x, or None."""
    return ((x, y), None if gaps is None else ((0, gaps[0]), (gaps[1], 0)), items)


def simple(name, shift):
    """The simple expression with this variable and shift, written in one of its ways."""
    if shift == 0:
        return ("var", name)
    if shift % 2:
        return ("add", ("var", name), ("num", shift))
    return ("sub", ("var", name), ("num", -shift))


def drawn_value(chance, width=5):
    """A value with integers from -width to width, sometimes without bounds."""
    while True:
        low, high = sorted([chance.randint(-width, width), chance.randint(-width, width)])
        if chance.random() < 0.15:
            low = None
        if chance.random() < 0.15:
            high = None
        m = chance.choice([1, 1, 1, 2, 3])
        value = value_of(low, high, m, chance.randrange(m))
        if value is not None:
            return value


def drawn_state(chance, has_gaps, width=5):
    """A state of TWO_OF by chance."""
    bounds = [None, None, -3, -1, 0, 1, 2, 4]
    gaps = (chance.choice(bounds), chance.choice(bounds)) if has_gaps else None
    first = sorted(chance.sample(range(1, 4), chance.randint(1, 3)))
    ends = first if first[-1] == 3 else first + [3]
    row = []
    for end in ends:
        value = drawn_value(chance, 3)
        if row and row[-1][1] == value:
            row.pop()
        row.append((end, value))
    return state(drawn_value(chance, width), drawn_value(chance, width), gaps,
        (tuple(row), ((1, drawn_value(chance, 3)),)))


def frames(one, width=6, items=((0, 0, 0), (0,))):
    """The frames with small numbers, and with these items, that a state describes."""
    for numbers in itertools.product(range(-width, width + 1), repeat=2):
        if covers(TWO_OF, one, (numbers, items)):
            yield numbers


class Examples(unittest.TestCase):
    def test_of_the_document(self):
        value = expression_value(LOOP[0], (((0, 9, 1, 0),), None, ()), ("mul", ("var", "x"), ("num", 2)))
        self.assertEqual(value, (0, 18, 2, 0))


class Entries(unittest.TestCase):
    def test_without_gaps(self):
        function = body(("set", "m", ONE), parameters=("z", "c"), arrays=(("a", 3), ("b", 1)), result=X)
        # the variables are z, c, m, x
        self.assertEqual(entry_state(function, [TEN, EVERY], False), ((TEN, EVERY, N0, N0), None, ZEROS))
        self.assertEqual(entry_state(body(), [], False), ((), None, ()))

    def test_with_gaps_it_is_tightened(self):
        self.assertEqual(entry_state(body(), [], True), ((), (), ()))
        self.assertEqual(entry_state(body(result=X), [], True), ((N0,), ((0,),), ()))
        self.assertEqual(entry_state(body(parameters=("x",), result=Y), [(2, 9, 1, 0)], True),
                         (((2, 9, 1, 0), N0), ((0, 9), (-2, 0)), ()))
        self.assertEqual(entry_state(body(parameters=("x",), result=Y), [EVERY], True), ((EVERY, N0), no_gaps(2), ()))
        self.assertEqual(entry_state(TWO_OF, [FROM0, (None, 4, 2, 0)], True), state(FROM0, (None, 4, 2, 0), (None, 4)))

    def test_it_describes_what_calls_begin_with(self):
        function = body(parameters=("x",), arrays=(("a", 2),), result=Y)
        for has_gaps in (False, True):
            begun = entry_state(function, [(3, 7, 4, 3)], has_gaps)
            for n in range(10):
                self.assertIs(covers(function, begun, ((n, 0), ((0, 0),))), n in (3, 7))
            self.assertIs(covers(function, begun, ((3, 1), ((0, 0),))), False)
            self.assertIs(covers(function, begun, ((3, 0), ((0, 1),))), False)


class Covers(unittest.TestCase):
    ITEMS = (((1, N5), (3, (0, 4, 4, 0))), ((1, EVERY),))

    def test_none(self):
        self.assertIs(covers(TWO_OF, None, ((0, 0), ((0, 0, 0), (0,)))), False)

    def test_values(self):
        for x, y, expected in [(0, 0, True), (10, 8, True), (11, 8, False), (-1, 8, False), (3, 7, False),
            (3, 12, False)]:
            self.assertIs(covers(TWO_OF, state(TEN, EVEN), ((x, y), ((0, 0, 0), (0,)))), expected)

    def test_gaps(self):
        for x, y, expected in [(3, 1, True), (4, 1, False), (1, 2, True), (1, 3, False), (0, 0, True)]:
            self.assertIs(covers(TWO_OF, state(TEN, TEN, (2, 1)), ((x, y), ((0, 0, 0), (0,)))), expected)
        self.assertIs(covers(TWO_OF, state(EVERY, EVERY, (None, 1)), ((999, 1), ((0, 0, 0), (0,)))), True)
        self.assertIs(covers(TWO_OF, state(EVERY, EVERY, (-5, None)), ((1, 6), ((0, 0, 0), (0,)))), True)
        self.assertIs(covers(TWO_OF, state(EVERY, EVERY, (-5, None)), ((1, 5), ((0, 0, 0), (0,)))), False)

    def test_items(self):
        for row, expected in [
            ((5, 0, 0), True), ((5, 4, 0), True), ((5, 0, 4), True), ((4, 0, 0), False), ((5, 5, 0), False),
            ((5, 0, 5), False),
        ]:
            self.assertIs(covers(TWO_OF, state(N0, N0, None, self.ITEMS), ((0, 0), (row, (7,)))), expected)
        items = (((3, EVERY),), ((1, N0),))
        self.assertIs(covers(TWO_OF, state(N0, N0, None, items), ((0, 0), ((1, 2, 3), (0,)))), True)
        self.assertIs(covers(TWO_OF, state(N0, N0, None, items), ((0, 0), ((1, 2, 3), (1,)))), False)


class Tightened(unittest.TestCase):
    def test_none_and_without_gaps(self):
        self.assertIsNone(tightened(None))
        for one in (state(TEN, EVEN), ((), None, ())):
            self.assertEqual(tightened(one), one)

    def test_with_gaps(self):
        self.assertEqual(tightened(((), (), ())), ((), (), ()))
        self.assertEqual(tightened(state(TEN, (0, 4, 1, 0), (2, None))), state((0, 6, 1, 0), (0, 4, 1, 0), (2, 4)))
        self.assertEqual(tightened(state(EVERY, (0, 4, 1, 0), (2, 3))), state((-3, 6, 1, 0), (0, 4, 1, 0), (2, 3)))
        self.assertEqual(tightened(state(EVERY, EVERY, (2, None))), state(EVERY, EVERY, (2, None)))

    def test_it_is_done_once(self):
        # x is even and at most y - 1: at most 9 by the bounds, at most 8 by what it leaves
        once = state((0, 8, 2, 0), (1, 10, 1, 0), (-1, 10))
        self.assertEqual(tightened(state(EVEN, TEN, (-1, None))), once)
        self.assertEqual(tightened(once), once)
        once = tightened(state((0, 12, 3, 0), (0, 20, 4, 0), (-1, 2)))
        self.assertEqual(once, state((0, 12, 3, 0), (4, 12, 4, 0), (-1, 2)))
        self.assertEqual(tightened(once), state((3, 9, 3, 0), (4, 12, 4, 0), (-1, 2)))

    def test_no_integers(self):
        self.assertIsNone(tightened(state(TEN, TEN, (2, -3))))
        self.assertIsNone(tightened(state(TEN, (20, 30, 1, 0), (None, 5))))
        # from 1 to 3 by the bounds, but a multiple of 4
        self.assertIsNone(tightened(state((0, 4, 4, 0), single(2), (1, 1))))

    def test_by_its_words(self):
        chance = random.Random(1)
        kinds = {}
        for _ in range(500):
            one = drawn_state(chance, True)
            closed = gaps_closed(one[1], [value[:2] for value in one[0]])
            expected = None
            if closed is not None:
                values = [value_meet(value, value_of(*span, 1, 0)) for value, span in zip(one[0], closed[1])]
                if None not in values:
                    expected = (tuple(values), closed[0], one[2])
            found = tightened(one)
            kind = 0 if closed is None else 1 if expected is None else 2
            kinds[kind] = kinds.get(kind, 0) + 1
            self.assertEqual(found, expected)
            self.assertEqual(list(frames_of(found)), list(frames_of(one)))
        self.assertEqual(len(kinds), 3)


def frames_of(one):
    """Frames of a state with each item that its first piece tells."""
    return frames((one[0], one[1], ZEROS) if one is not None else None)


class Mixing(unittest.TestCase):
    LEFT = state(TEN, EVEN, (3, None), (((1, N5), (3, N0)), ((1, TEN),)))
    RIGHT = state((5, 20, 1, 0), (0, 5, 5, 0), (1, 7), (((3, N5),), ((1, EVEN),)))

    def test_within(self):
        wide = state(EVERY, EVERY, (None, None), (((3, EVERY),), ((1, EVERY),)))
        one = state(TEN, EVEN, (3, 4))
        self.assertIs(state_within(None, None), True)
        self.assertIs(state_within(None, one), True)
        self.assertIs(state_within(one, None), False)
        self.assertIs(state_within(one, one), True)
        self.assertIs(state_within(one, wide), True)
        self.assertIs(state_within(wide, one), False)
        for other in [
            state((0, 9, 1, 0), EVEN, (3, 4)), state(TEN, (0, 8, 2, 0), (3, 4)), state(TEN, EVEN, (2, 4)),
            state(TEN, EVEN, (3, 3)), state(TEN, EVEN, (3, 4), (((1, N5), (3, N0)), ((1, N0),))),
            state(TEN, EVEN, (3, 4), (((3, N0),), ((1, N5),))), state(TEN, (0, 20, 4, 0), (3, 4)),
        ]:
            self.assertIs(state_within(one, other), False, other)
        for other in [state((-1, 11, 1, 0), EVEN, (3, 4)), state(TEN, EVEN, (4, None)),
                      state(TEN, EVEN, (3, 4), (((1, N0), (3, TEN)), ((1, TEN),)))]:
            self.assertIs(state_within(one, other), True, other)
        self.assertIs(state_within(state(TEN, EVEN), state(TEN, TEN)), True)
        self.assertIs(state_within(state(TEN, TEN), state(TEN, EVEN)), False)

    def test_nothing_is_tightened_to_compare(self):
        loose, tight = state(TEN, TEN, (-1, None)), tightened(state(TEN, TEN, (-1, None)))
        self.assertIs(state_within(tight, loose), True)
        self.assertIs(state_within(loose, tight), False)
        self.assertIs(state_within(state(TEN, TEN, (2, -3)), state(N0, N0, (0, 0))), False)

    def test_join(self):
        self.assertIsNone(state_join(None, None))
        self.assertEqual(state_join(self.LEFT, None), self.LEFT)
        self.assertEqual(state_join(None, self.LEFT), self.LEFT)
        self.assertEqual(state_join(self.LEFT, self.RIGHT), state(
            (0, 20, 1, 0), (0, 10, 1, 0), (3, None), (((1, N5), (3, (0, 5, 5, 0))), ((1, TEN),))))
        self.assertEqual(state_join(state(N0, N1), state(N5, N1)), state((0, 5, 5, 0), N1))

    def test_meet(self):
        self.assertIsNone(state_meet(None, None))
        self.assertIsNone(state_meet(self.LEFT, None))
        self.assertIsNone(state_meet(None, self.LEFT))
        wide = state(EVERY, EVERY, (None, 7), (((2, EVERY), (3, FROM0)), ((1, EVERY),)))
        self.assertEqual(state_meet(self.LEFT, wide), state(TEN, EVEN, (3, 7), self.LEFT[2]))
        self.assertEqual(state_meet(state(TEN, EVEN), state((5, 20, 1, 0), (0, 5, 5, 0))), state((5, 10, 1, 0), N0))
        self.assertIsNone(state_meet(state(TEN, N0), state(TEN, N1)))
        self.assertIsNone(state_meet(state(N5, TEN), state((0, 4, 1, 0), TEN)))
        self.assertIsNone(state_meet(state(TEN, TEN), state(TEN, TEN, None, (((3, N0),), ((1, N1),)))))
        self.assertIsNone(state_meet(state(TEN, TEN), state(TEN, TEN, None, (((2, N0), (3, N1)), ((1, N0),)))))
        # the meet of the bounds has no integers, but nothing is closed
        self.assertEqual(state_meet(state(TEN, TEN, (2, None)), state(TEN, TEN, (None, -3))), state(TEN, TEN, (2, -3)))

    def test_widen(self):
        self.assertIsNone(state_widen(None, None, ()))
        self.assertEqual(state_widen(None, self.LEFT, ()), self.LEFT)
        other = state((0, 20, 1, 0), (-2, 10, 1, 0), (3, None), (((1, N5), (3, (0, 5, 5, 0))), ((1, (0, 12, 1, 0)),)))
        self.assertEqual(state_widen(self.LEFT, other, ()), state(
            FROM0, (None, 10, 1, 0), (3, None), (((1, N5), (3, (0, None, 5, 0))), ((1, FROM0),))))
        self.assertEqual(state_widen(self.LEFT, other, (-4, 15, 33)), state(
            (0, 33, 1, 0), (-4, 10, 1, 0), (3, None), (((1, N5), (3, (0, 15, 5, 0))), ((1, (0, 15, 1, 0)),))))
        self.assertEqual(state_widen(state(N0, N0, (0, 0)), state((0, 1, 1, 0), N0, (1, 0)), (4,)),
                         state((0, 4, 1, 0), N0, (None, 0)))
        self.assertEqual(state_widen(state(N0, N0), state((0, 1, 1, 0), N0), ()), state(FROM0, N0))

    def test_part_by_part(self):
        chance = random.Random(2)
        seen = {True: 0, False: 0}
        for _ in range(400):
            has_gaps = chance.random() < 0.5
            one, other = drawn_state(chance, has_gaps), drawn_state(chance, has_gaps)
            joined = state_join(one, other)
            pairs = list(zip(one[0], other[0]))
            self.assertEqual(joined, (
                tuple(value_join(a, b) for a, b in pairs), gaps_join(one[1], other[1]) if has_gaps else None,
                tuple(pieces_join(a, b) for a, b in zip(one[2], other[2])),
            ))
            met = state_meet(one, other)
            parts = [value_meet(a, b) for a, b in pairs] + [pieces_meet(a, b) for a, b in zip(one[2], other[2])]
            seen[None in parts] += 1
            expected = None
            if None not in parts:
                expected = (tuple(parts[:2]), gaps_meet(one[1], other[1]) if has_gaps else None, tuple(parts[2:]))
            self.assertEqual(met, expected)
            self.assertEqual(state_widen(one, joined, (-7, 0, 6)), (
                tuple(value_widen(a, b, (-7, 0, 6)) for a, b in zip(one[0], joined[0])),
                gaps_widen(one[1], joined[1]) if has_gaps else None,
                tuple(pieces_widen(a, b, (-7, 0, 6)) for a, b in zip(one[2], joined[2])),
            ))
            self.assertTrue(state_within(one, joined) and state_within(joined, state_widen(one, joined, ())))
            self.assertTrue(state_within(met, one) and state_within(met, other))
        self.assertGreater(min(seen.values()), 50)


class ExpressionValues(unittest.TestCase):
    def rows(self, start, rows):
        for expression, expected in rows:
            with self.subTest(expression):
                self.assertEqual(expression_value(TWO_OF, start, expression), expected)

    def test_plain(self):
        items = (((1, N5), (3, EVEN)), ((1, N1),))
        self.rows(state(TEN, (4, None, 3, 1), None, items), [
            (("num", -7), single(-7)), (X, TEN), (Y, (4, None, 3, 1)), (("add", X, Y), (4, None, 1, 0)),
            (("sub", X, ("num", 3)), (-3, 7, 1, 0)), (("mul", Y, ("num", -2)), (None, -8, 6, 4)),
            (("div", X, ("num", 3)), (0, 3, 1, 0)), (("mod", Y, ("num", 3)), N1), (("mod", X, Y), TEN),
            (("item", "a", ZERO), N5), (("item", "a", ("num", 2)), EVEN), (("item", "a", X), (0, 10, 1, 0)),
            (("item", "b", ("sub", Y, ("num", 4))), N1), (("item", "a", ("item", "b", ZERO)), EVEN),
            (("sub", X, X), (-10, 10, 1, 0)),
        ])

    def test_no_value(self):
        no_item, no_result = ("item", "a", ("num", 3)), ("div", X, ZERO)
        self.rows(state(TEN, N0), [
            (no_result, None), (("mod", X, Y), None), (no_item, None), (("item", "b", ("num", -1)), None),
            (("item", "a", no_result), None), (("add", ONE, no_item), None), (("mul", no_result, ZERO), None),
            (("sub", no_item, ONE), None), (("div", ONE, ("div", ONE, ("item", "a", X))), None),
        ])
        for expression in (X, ("num", 3)):
            self.assertIsNone(expression_value(TWO_OF, None, expression))
            self.assertIsNone(expression_value(TWO_OF, state(TEN, TEN, (2, -3)), expression))

    def test_it_works_on_a_tightened_copy(self):
        loose = state(TEN, (0, 4, 1, 0), (2, None))
        self.rows(loose, [(X, (0, 6, 1, 0)), (("add", X, Y), TEN), (("item", "a", ("sub", X, ("num", 6))), N0)])
        self.rows(state(TEN, (0, 4, 1, 0)), [(X, TEN)])

    def test_it_is_tightened_once(self):
        self.rows(state((0, 12, 3, 0), (0, 20, 4, 0), (-1, 2)), [(X, (0, 12, 3, 0)), (Y, (4, 12, 4, 0))])

    def test_differences_of_simple_expressions(self):
        near = state(TEN, TEN, (2, 1))
        for s, t in itertools.product((-4, -3, 0, 5, 6), repeat=2):
            self.rows(near, [
                (("sub", simple("x", s), simple("y", t)), (s - t - 1, s - t + 2, 1, 0)),
                (("sub", simple("y", t), simple("x", s)), (t - s - 2, t - s + 1, 1, 0)),
                (("sub", simple("x", s), simple("x", t)), (s - t - 10, s - t + 10, 1, 0)),
            ])
            self.rows(state(TEN, TEN), [(("sub", simple("x", s), simple("y", t)), (s - t - 10, s - t + 10, 1, 0))])
        self.rows(near, [
            (("mul", ("sub", X, Y), ("num", 3)), (-3, 6, 3, 0)), (("sub", ("sub", X, Y), ("num", 3)), (-4, -1, 1, 0)),
            (("sub", ("add", ONE, X), Y), (-9, 11, 1, 0)), (("sub", X, ("mul", Y, ONE)), (-10, 10, 1, 0)),
            (("add", X, ("sub", ZERO, Y)), (-10, 10, 1, 0)), (("sub", X, ONE), (-1, 9, 1, 0)),
            (("sub", ONE, X), (-9, 1, 1, 0)),
            (("sub", ("add", X, Y), Y), (-10, 20, 1, 0)), (("sub", ("sub", X, Y), Y), (-11, 2, 1, 0)),
            (("sub", ("add", X, X), Y), (-10, 20, 1, 0)), (("sub", Y, ("mul", X, ONE)), (-10, 10, 1, 0)),
        ])

    def test_differences_with_one_bound(self):
        self.rows(state(EVERY, EVERY, (2, None)), [
            (("sub", X, Y), (None, 2, 1, 0)), (("sub", Y, X), (-2, None, 1, 0)),
            (("sub", ("add", X, ("num", 7)), Y), (None, 9, 1, 0)),
        ])
        self.rows(state(EVERY, EVERY, (None, None)), [(("sub", X, Y), EVERY)])

    def test_differences_without_integers(self):
        even = state(EVEN, EVEN, (1, -1))
        self.rows(even, [(("sub", X, Y), None), (("sub", Y, X), None), (("add", ONE, ("sub", Y, X)), None),
            (X, (2, 10, 2, 0))])
        self.rows(state((None, None, 2, 0), (None, None, 2, 1), (4, 4)), [(("sub", X, Y), (-3, 3, 2, 1))])

    def test_all_small_numbers(self):
        chance = random.Random(4)
        operations = {"add": lambda a, b: a + b, "sub": lambda a, b: a - b, "mul": lambda a, b: a * b}
        for _ in range(200):
            one = drawn_state(chance, chance.random() < 0.7)
            one = (one[0], one[1], ZEROS)
            sign = chance.choice(sorted(operations))
            s, t = chance.randint(-3, 3), chance.randint(-3, 3)
            found = expression_value(TWO_OF, one, (sign, simple("x", s), simple("y", t)))
            for x, y in frames(one):
                self.assertTrue(contains(found, operations[sign](x + s, y + t)))


class General(unittest.TestCase):
    def test_lists_names_and_unchanged_arguments(self):
        chance = random.Random(6)
        lists = as_lists(TWO_OF)
        for has_gaps in (True, False):
            for _ in range(60):
                one, other = drawn_state(chance, has_gaps), drawn_state(chance, has_gaps)
                left, right = as_lists(one), as_lists(other)
                joined = state_join(other=right, one=left)
                wide = as_lists(joined)
                for found, expected in [
                    (joined, state_join(one, other)), (state_join(left, None), one), (state_join(None, right), other),
                    (state_meet(other=right, one=left), state_meet(one, other)),
                    (state_widen(marks=[-9, 9], other=wide, one=left), state_widen(one, joined, (-9, 9))),
                    (state_widen(None, left, []), one), (tightened(state=left), tightened(one)),
                    (expression_value(expression=["add", ["var", "x"], ["num", 2]], state=left, function=lists),
                     expression_value(TWO_OF, one, ("add", X, ("num", 2)))),
                    (entry_state(has_gaps=has_gaps, values=left[0], function=lists),
                        entry_state(TWO_OF, one[0], has_gaps)),
                ]:
                    self.assertEqual(found, expected)
                    self.assertFalse(has_list(found) or isinstance(found, list))
                self.assertIs(state_within(other=right, one=left), state_within(one, other))
                frame = [[1, 2], [[0, 0, 0], [0]]]
                self.assertIs(covers(frame=frame, state=left, function=lists),
                    covers(TWO_OF, one, ((1, 2), ((0, 0, 0), (0,)))))
                self.assertEqual((left, right, wide), (as_lists(one), as_lists(other), as_lists(joined)))
                self.assertEqual((lists, frame), (as_lists(TWO_OF), [[1, 2], [[0, 0, 0], [0]]]))


if __name__ == "__main__":
    unittest.main()
