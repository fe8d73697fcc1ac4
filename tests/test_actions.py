"""states.py ([14]): states after actions, at the beginning and at the end of calls."""

import itertools
import random
import unittest

from shadowruns.graph import edges, exit_of
from shadowruns.limits import GREATEST
from shadowruns.programs import variables
from shadowruns.running import run
from shadowruns.states import called, covers, expression_value, returned, state_join, tightened, transferred
from shadowruns.values import EVERY, single, value_of
from tests.samples import LOOP, ONE, TWO, X, Y, ZERO, as_lists, body, has_list, likely, made
from tests.test_states import EVEN, FROM0, N0, N1, N5, TEN, TWO_OF, ZEROS, drawn_state, frames, simple, state
from tests.drawing import CALLEE, CALLER, Drawing
from tests.walker import End, Walker
from tests.words import (
    called_by_the_words, expression_value_by_the_words, returned_by_the_words, transferred_by_the_words,
)

ALL = (-GREATEST, GREATEST, 1, 0)
TOP = ("num", GREATEST)
BAD = ("div", ONE, ZERO)
NO_ITEM = ("item", "a", ("num", 3))
DOUBLE = ("mul", X, ("num", 2))
LOOSE = state(TEN, (0, 4, 1, 0), (2, None))
TIGHT = state((0, 6, 1, 0), (0, 4, 1, 0), (2, 4))
NOWHERE = state(TEN, TEN, (2, -3))


class Rows(unittest.TestCase):
    def rows(self, start, rows, function=TWO_OF):
        for action, expected in rows:
            with self.subTest(action):
                self.assertEqual(transferred(function, start, action), expected)

    def both(self, x, y, sign, atom, expected):
        """expected is the pair of the values behind the action, None for no state at all."""
        e, f = atom[1], atom[2]
        found = transferred(TWO_OF, state(x, y), (sign, atom))
        self.assertEqual(found, None if expected is None else state(*expected), (x, y, sign, e, f))


class Plain(Rows):
    def test_of_the_document(self):
        self.assertEqual(
            transferred(LOOP[0], (((0, None, 1, 0),), None, ()), ("when", ("less", ("var", "x"), ("num", 10)))),
            (((0, 9, 1, 0),), None, ()),
        )

    def test_every_action_without_a_state(self):
        for action in [("skip",), ("fail",), ("stop",), ("nonzero", ONE), ("within", "a", ZERO), ("set", "x", ONE),
                       ("input", "x", 0, 1), ("put", "a", ZERO, ONE), ("when", ("less", ZERO, ONE)),
                       ("unless", ("less", ONE, ZERO)), ("when", ("equal", ONE, ONE)),
                       ("unless", ("equal", ONE, ZERO))]:
            self.rows(None, [(action, None)])
            self.rows(NOWHERE, [(action, None)])
            found = transferred(TWO_OF, state(TEN, TEN), action)
            self.assertEqual(found is None, action[0] in ("fail", "stop"))

    def test_skip_fail_stop(self):
        self.rows(state(TEN, EVEN), [(("skip",), state(TEN, EVEN)), (("fail",), None), (("stop",), None)])
        self.rows(LOOSE, [(("skip",), TIGHT), (("fail",), None), (("stop",), None)])

    def test_the_result_is_tightened_once_more(self):
        rough = state((0, 12, 3, 0), (0, 20, 4, 0), (-1, 2))
        once = tightened(rough)
        twice = tightened(once)
        self.assertNotEqual(once, twice)
        self.rows(rough, [(("skip",), twice), (("within", "a", ZERO), twice), (("nonzero", ONE), twice)])

    def test_values_are_those_of_the_tightened_copy(self):
        # x is at most 6 there
        self.rows(LOOSE, [
            (("set", "y", X), state((0, 6, 1, 0), (0, 6, 1, 0), (0, 0))),
            (("when", ("less", ("num", 6), X)), None),
            (("nonzero", ("sub", X, ("num", 6))), state((0, 5, 1, 0), (0, 4, 1, 0), (2, 4))),
        ])


class Guards(Rows):
    def test_nonzero(self):
        for x, f, expected in [
            (TEN, X, (1, 10, 1, 0)), ((-9, 0, 1, 0), X, (-9, -1, 1, 0)), ((-9, 9, 1, 0), X, (-9, 9, 1, 0)),
            (N0, X, None),
            (N5, X, N5), (FROM0, X, (1, None, 1, 0)), ((None, 0, 1, 0), X, (None, -1, 1, 0)), (EVERY, X, EVERY),
            (EVEN, X, (2, 10, 2, 0)), ((0, 4, 4, 0), X, single(4)), ((-4, 0, 2, 0), X, (-4, -2, 2, 0)),
            ((3, 9, 1, 0), simple("x", -3), (4, 9, 1, 0)), ((3, 9, 1, 0), simple("x", -9), (3, 8, 1, 0)),
            ((3, 9, 1, 0), simple("x", -4), (3, 9, 1, 0)), ((-9, -3, 1, 0), simple("x", 9), (-8, -3, 1, 0)),
            ((-9, -3, 1, 0), simple("x", 3), (-9, -4, 1, 0)), (N5, simple("x", -5), None), (N5, simple("x", 5), N5),
            ((3, 9, 1, 0), simple("x", 3), (3, 9, 1, 0)), (TEN, DOUBLE, TEN), (N0, DOUBLE, None), (TEN, ZERO, None),
            (TEN, ONE, TEN),
            (TEN, ("add", ZERO, X), TEN), (TEN, NO_ITEM, None), (TEN, ("item", "a", X), None), (TEN, BAD, None),
        ]:
            found = transferred(TWO_OF, state(x, N1), ("nonzero", f))
            self.assertEqual(found, None if expected is None else state(expected, N1), (x, f))

    def test_nonzero_of_the_other_variable(self):
        self.rows(state(TEN, (-2, 0, 1, 0)), [
            (("nonzero", Y), state(TEN, (-2, -1, 1, 0))), (("nonzero", simple("y", 2)), state(TEN, (-1, 0, 1, 0))),
        ])

    def test_nonzero_with_gaps(self):
        self.rows(state(TEN, TEN, (2, 0)), [(("nonzero", X), state((1, 10, 1, 0), TEN, (2, 0)))])
        self.rows(state(TEN, TEN, (0, 0)), [(("nonzero", X), state((1, 10, 1, 0), (1, 10, 1, 0), (0, 0)))])
        self.rows(state(TEN, TEN, (0, 0)), [(("nonzero", ("sub", X, Y)), None)])

    def test_within(self):
        for x, i, expected in [
            (EVERY, X, (0, 2, 1, 0)), (FROM0, X, (0, 2, 1, 0)), (N1, X, N1), ((2, 9, 1, 0), X, single(2)),
            ((3, 9, 1, 0), X, None),
            ((-9, -1, 1, 0), X, None), ((-9, 0, 1, 0), X, N0), ((-3, 15, 18, 15), X, None), ((-1, 3, 4, 3), X, None),
            ((-9, 9, 3, 0), X, N0), (EVERY, simple("x", 3), (-3, -1, 1, 0)), (EVERY, simple("x", -4), (4, 6, 1, 0)),
            (TEN, simple("x", -4), (4, 6, 1, 0)), (TEN, simple("x", -11), None), (TEN, DOUBLE, TEN),
            ((2, 9, 1, 0), DOUBLE, None),
            (TEN, ZERO, TEN), (TEN, ("num", 2), TEN), (TEN, ("num", 3), None), (TEN, ("num", -1), None),
            (TEN, ("add", ZERO, X), TEN), (TEN, NO_ITEM, None), (TEN, BAD, None), (TEN, ("item", "a", X), TEN),
        ]:
            found = transferred(TWO_OF, state(x, N1), ("within", "a", i))
            self.assertEqual(found, None if expected is None else state(expected, N1), (x, i))

    def test_within_the_right_array(self):
        self.rows(state(TEN, TEN), [(("within", "b", X), state(N0, TEN)), (("within", "b", Y), state(TEN, N0)),
                                    (("within", "b", ONE), None)])

    def test_within_with_gaps(self):
        self.rows(state(EVERY, EVERY, (1, None)),
            [(("within", "a", Y), state((None, 3, 1, 0), (0, 2, 1, 0), (1, None)))])


class Setting(Rows):
    def test_values(self):
        self.rows(state(TEN, EVEN), [
            (("set", "x", ("num", 7)), state(single(7), EVEN)), (("set", "y", DOUBLE), state(TEN, (0, 20, 2, 0))),
            (("set", "x", Y), state(EVEN, EVEN)), (("set", "x", ("add", X, ONE)), state((1, 11, 1, 0), EVEN)),
            (("set", "x", BAD), None), (("set", "x", ("add", NO_ITEM, ONE)), None),
            (("set", "y", ("item", "a", X)), state(TEN, N0)),
        ])

    def test_greatest(self):
        self.rows(state(EVERY, TEN), [
            (("set", "y", X), state(EVERY, ALL)), (("set", "x", ("add", X, ONE)), state(ALL, TEN)),
            (("set", "y", DOUBLE), state(EVERY, (-GREATEST, GREATEST, 2, 0))),
            (("set", "x", ("add", TOP, Y)), state(single(GREATEST), TEN)), (("set", "x", ("add", TOP, ONE)), None),
            (("set", "x", TOP), state(single(GREATEST), TEN)),
            (("set", "x", ("sub", ZERO, TOP)), state(single(-GREATEST), TEN)),
            (("set", "x", ("sub", ("num", -GREATEST), ONE)), None),
            (("set", "y", ("mul", TOP, Y)), state(EVERY, (0, GREATEST, GREATEST, 0))),
        ])

    def test_gaps_of_the_variable_itself(self):
        for shift in (-3, -2, 4, 5):
            self.rows(state(EVERY, EVERY, (2, 1)), [
                (("set", "x", simple("x", shift)), state(ALL, (-GREATEST - 2 - shift, GREATEST + 1 - shift, 1, 0),
                                                         (2 + shift, 1 - shift))),
            ])
            self.rows(state(TEN, TEN, (2, 1)), [
                (("set", "x", simple("x", shift)), state((shift, 10 + shift, 1, 0), TEN, (2 + shift, 1 - shift))),
                (("set", "y", simple("y", shift)), state(TEN, (shift, 10 + shift, 1, 0), (2 - shift, 1 + shift))),
            ])
        self.rows(state(TEN, TEN, (2, 1)), [(("set", "x", X), state(TEN, TEN, (2, 1)))])

    def test_gaps_of_another_variable(self):
        for shift in (-3, 0, 2):
            self.rows(state(TEN, TEN, (2, 1)), [
                (("set", "x", simple("y", shift)), state((shift, 10 + shift, 1, 0), TEN, (shift, -shift))),
                (("set", "y", simple("x", shift)), state(TEN, (shift, 10 + shift, 1, 0), (-shift, shift))),
            ])
            self.rows(state(EVERY, ALL, (2, 1)), [
                (("set", "x", simple("y", shift)), state(
                    (max(-GREATEST, -GREATEST + shift), min(GREATEST, GREATEST + shift), 1, 0),
                    (max(-GREATEST, -GREATEST - shift), min(GREATEST, GREATEST - shift), 1, 0), (shift, -shift))),
            ])

    def test_gaps_are_dropped(self):
        start = state(TEN, TEN, (2, 1))
        self.rows(start, [
            (("set", "x", DOUBLE), state((0, 20, 2, 0), TEN, (20, 10))),
            (("set", "x", ("num", 5)), state(N5, TEN, (5, 5))),
            (("set", "x", ("add", ONE, X)), state((1, 11, 1, 0), TEN, (11, 9))),
            (("set", "x", ("item", "a", X)), state(N0, TEN, (0, 10))),
            (("set", "x", ("add", Y, Y)), state((0, 20, 1, 0), TEN, (20, 10))),
            (("set", "x", ("sub", X, Y)), state((-1, 2, 1, 0), TEN, (2, 11))),
            (("set", "x", ("add", ("mul", Y, ONE), ONE)), state((1, 11, 1, 0), TEN, (11, 9))),
        ])

    def test_third_variables_keep_their_gaps(self):
        function = body(parameters=("x", "y", "z"))
        gaps = ((0, 1, 2), (3, 0, 4), (5, 6, 0))
        free = ((EVERY, ALL, ALL), gaps, ())
        found = transferred(function, free, ("set", "x", ("add", ("var", "y"), ("num", 7))))
        self.assertEqual(found[1], ((0, 7, 11), (-7, 0, 4), (-1, 6, 0)))
        found = transferred(function, free, ("set", "x", ("add", X, ("num", 7))))
        self.assertEqual(found[1], ((0, 8, 9), (-4, 0, 4), (-2, 6, 0)))
        found = transferred(function, free, ("input", "x", None, None))
        self.assertEqual(found[1][1:], ((2 * GREATEST, 0, 4), (2 * GREATEST, 6, 0)))


class Inputs(Rows):
    def test_bounds(self):
        self.rows(state(TEN, EVEN), [
            (("input", "x", 2, 7), state((2, 7, 1, 0), EVEN)), (("input", "y", -3, -3), state(TEN, single(-3))),
            (("input", "x", 2, None), state((2, GREATEST, 1, 0), EVEN)),
            (("input", "x", None, 2), state((-GREATEST, 2, 1, 0), EVEN)),
            (("input", "y", None, None), state(TEN, ALL)), (("input", "x", -10 ** 40, 10 ** 40), state(ALL, EVEN)),
            (("input", "x", GREATEST, None), state(single(GREATEST), EVEN)), (("input", "x", GREATEST + 1, None), None),
            (("input", "x", None, -GREATEST - 1), None),
            (("input", "x", None, -GREATEST), state(single(-GREATEST), EVEN)),
        ])

    def test_gaps_are_dropped(self):
        self.rows(state(TEN, TEN, (2, 1)), [
            (("input", "x", 3, 20), state((3, 20, 1, 0), TEN, (20, 7))),
            (("input", "y", 3, 20), state(TEN, (3, 20, 1, 0), (7, 20))),
        ])


class Putting(Rows):
    def test_items(self):
        one = (((1, N0), (2, single(7)), (3, N0)), ((1, N0),))
        two = (((2, (0, 7, 7, 0)), (3, N0)), ((1, N0),))
        self.rows(state((0, 1, 1, 0), single(7)), [
            (("put", "a", ONE, Y), state((0, 1, 1, 0), single(7), None, one)),
            (("put", "a", X, Y), state((0, 1, 1, 0), single(7), None, two)),
            (("put", "b", X, Y), state((0, 1, 1, 0), single(7), None, (ZEROS[0], ((1, single(7)),)))),
            (("put", "a", ("num", 3), Y), None), (("put", "a", BAD, Y), None), (("put", "a", ONE, BAD), None),
            (("put", "a", NO_ITEM, ONE), None), (("put", "a", ONE, NO_ITEM), None),
            (("put", "a", ("item", "a", ZERO), ONE),
             state((0, 1, 1, 0), single(7), None, (((1, N1), (3, N0)), ((1, N0),)))),
        ])

    def test_greatest(self):
        for e, value in [(("add", TOP, X), single(GREATEST)), (("sub", ("num", -GREATEST), X), single(-GREATEST)),
                         (("mul", TOP, X), (0, GREATEST, GREATEST, 0)), (("add", TOP, ONE), None),
                         (("sub", ("num", -GREATEST), ONE), None)]:
            expected = None if value is None else state(TEN, N0, None, (((1, value), (3, N0)), ((1, N0),)))
            self.rows(state(TEN, N0), [(("put", "a", ZERO, e), expected)])

    def test_with_gaps(self):
        items = (((2, N0), (3, (-1, 2, 1, 0))), ((1, N0),))
        self.rows(state(TEN, TEN, (2, 1)), [(("put", "a", ("num", 2), ("sub", X, Y)), state(TEN, TEN, (2, 1), items))])


class Less(Rows):
    WIDE = (-20, 20, 1, 0)

    def test_true(self):
        for x, y, e, f, expected in [
            (TEN, (2, 7, 1, 0), X, Y, ((0, 6, 1, 0), (2, 7, 1, 0))),
            ((5, 9, 1, 0), (2, 7, 1, 0), X, Y, ((5, 6, 1, 0), (6, 7, 1, 0))),
            ((7, 9, 1, 0), (2, 7, 1, 0), X, Y, None), ((6, 9, 1, 0), (2, 7, 1, 0), X, Y, (single(6), single(7))),
            (EVERY, EVERY, X, Y, (EVERY, EVERY)), (FROM0, (None, 5, 1, 0), X, Y, ((0, 4, 1, 0), (1, 5, 1, 0))),
            (EVEN, (0, 8, 4, 0), X, Y, ((0, 6, 2, 0), (4, 8, 4, 0))), (TEN, N0, X, Y, None), (TEN, N1, X, Y, (N0, N1)),
            ((None, 5, 1, 0), TEN, Y, X, ((1, 5, 1, 0), (0, 4, 1, 0))),
        ]:
            self.both(x, y, "when", ("less", e, f), expected)

    def test_true_with_shifts(self):
        for s, t in itertools.product((-3, 0, 4), repeat=2):
            # x + s < y + t: x is at most 10 + t - s - 1, y at least s - t + 1
            x, y = value_of(0, min(10, 9 + t - s), 1, 0), value_of(max(0, s - t + 1), 10, 1, 0)
            self.both(TEN, TEN, "when", ("less", simple("x", s), simple("y", t)), (x, y))
            self.both(TEN, TEN, "when", ("less", simple("y", s), simple("x", t)), (y, x))
        for s in (-3, 0, 4):
            self.both(self.WIDE, N0, "when", ("less", simple("x", s), ("num", 5)), ((-20, 4 - s, 1, 0), N0))
            self.both(self.WIDE, N0, "when", ("less", ("num", 5), simple("x", s)), ((6 - s, 20, 1, 0), N0))
            self.both(self.WIDE, TEN, "when", ("less", simple("x", s), ("mul", Y, ("num", 2))),
                ((-20, min(20, 19 - s), 1, 0), TEN))
            self.both(self.WIDE, TEN, "when", ("less", ("add", Y, Y), simple("x", s)), ((1 - s, 20, 1, 0), TEN))

    def test_false(self):
        for x, y, e, f, expected in [
            (TEN, (2, 7, 1, 0), X, Y, ((2, 10, 1, 0), (2, 7, 1, 0))),
            ((0, 4, 1, 0), (2, 7, 1, 0), X, Y, ((2, 4, 1, 0), (2, 4, 1, 0))),
            ((0, 2, 1, 0), (2, 7, 1, 0), X, Y, (single(2), single(2))), ((0, 1, 1, 0), (2, 7, 1, 0), X, Y, None),
            (EVERY, EVERY, X, Y, (EVERY, EVERY)), ((None, 5, 1, 0), FROM0, X, Y, ((0, 5, 1, 0), (0, 5, 1, 0))),
            (N0, N0, X, Y, (N0, N0)), (EVEN, (3, 15, 4, 3), X, Y, ((4, 10, 2, 0), (3, 7, 4, 3))),
        ]:
            self.both(x, y, "unless", ("less", e, f), expected)
        for s in (-3, 0, 4):
            self.both(self.WIDE, N0, "unless", ("less", simple("x", s), ("num", 5)), ((5 - s, 20, 1, 0), N0))
            self.both(self.WIDE, N0, "unless", ("less", ("num", 5), simple("x", s)), ((-20, 5 - s, 1, 0), N0))

    def test_no_simple_side(self):
        for x, expected in [(TEN, (TEN, N0)), ((0, 3, 1, 0), None), ((4, 9, 1, 0), ((4, 9, 1, 0), N0))]:
            self.both(x, N0, "when", ("less", ("num", 7), DOUBLE), expected)
        for x, expected in [(TEN, (TEN, N0)), ((0, 3, 1, 0), ((0, 3, 1, 0), N0)), ((4, 9, 1, 0), None)]:
            self.both(x, N0, "unless", ("less", ("num", 7), DOUBLE), expected)

    def test_numbers(self):
        for a, b in itertools.product((4, 5, 6), repeat=2):
            atom = ("less", ("num", a), ("num", b))
            self.both(TEN, TEN, "when", atom, (TEN, TEN) if a < b else None)
            self.both(TEN, TEN, "unless", atom, None if a < b else (TEN, TEN))

    def test_the_same_variable(self):
        for s, t in itertools.product((-2, 0, 1, 3), repeat=2):
            atom = ("less", simple("x", s), simple("x", t))
            for has_gaps in (False, True):
                start = state(EVERY, N0, (None, None) if has_gaps else None)
                self.rows(start, [(("when", atom), start if s < t else None),
                    (("unless", atom), None if s < t else start)])
        # both meets are made: x + 3 < x + 5 for x from 0 to 10 tells nothing, x < x + 5 neither
        self.both(TEN, N0, "when", ("less", simple("x", 3), simple("x", 5)), (TEN, N0))
        self.both(TEN, N0, "when", ("less", simple("x", 3), ("mul", X, ONE)), ((0, 6, 1, 0), N0))

    def test_gaps(self):
        free = state(EVERY, EVERY, (None, None))
        for s, t in itertools.product((-2, 0, 3), repeat=2):
            e, f = simple("x", s), simple("y", t)
            self.rows(free, [
                (("when", ("less", e, f)), state(EVERY, EVERY, (t - s - 1, None))),
                (("unless", ("less", e, f)), state(EVERY, EVERY, (None, s - t))),
                (("when", ("less", f, e)), state(EVERY, EVERY, (None, s - t - 1))),
                (("unless", ("less", f, e)), state(EVERY, EVERY, (t - s, None))),
            ])
        self.rows(state(EVERY, EVERY, (-4, None)), [(("when", ("less", X, Y)), state(EVERY, EVERY, (-4, None)))])
        self.rows(state(TEN, TEN, (2, -1)), [(("when", ("less", X, Y)), None)])
        self.rows(state(TEN, TEN, (2, 0)), [
            (("when", ("less", X, Y)), None), (("unless", ("less", X, Y)), state(TEN, TEN, (2, 0))),
            (("unless", ("less", Y, X)), state(TEN, TEN, (0, 0))),
        ])
        self.rows(free, [(("when", ("less", X, DOUBLE)), free), (("when", ("less", X, ("add", ONE, Y))), free)])

    def test_no_value(self):
        for sign in ("when", "unless"):
            for wrong in (BAD, NO_ITEM):
                self.both(TEN, TEN, sign, ("less", wrong, X), None)
                self.both(TEN, TEN, sign, ("less", X, wrong), None)


class Equal(Rows):
    def test_true(self):
        for x, y, e, f, expected in [
            (TEN, (2, 17, 1, 0), X, Y, ((2, 10, 1, 0), (2, 10, 1, 0))), (TEN, (11, 17, 1, 0), X, Y, None),
            (EVEN, (0, None, 3, 0), X, Y, ((0, 6, 6, 0), (0, 6, 6, 0))), (EVEN, (1, 9, 2, 1), X, Y, None),
            (N5, TEN, X, Y, (N5, N5)),
            (TEN, (2, 9, 1, 0), simple("x", 3), Y, ((0, 6, 1, 0), (3, 9, 1, 0))),
            (TEN, (2, 9, 1, 0), simple("x", 3), simple("y", 5), ((4, 10, 1, 0), (2, 8, 1, 0))),
            (EVEN, EVEN, simple("x", 3), simple("y", -2), None),
            (EVEN, EVEN, simple("x", 3), simple("y", 5), ((2, 10, 2, 0), (0, 8, 2, 0))),
            (TEN, N0, X, ("num", 7), (single(7), N0)), (TEN, N0, ("num", 7), simple("x", -2), (single(9), N0)),
            (TEN, N0, X, ("num", 11), None), (TEN, TEN, X, ("mul", Y, ("num", 3)), ((0, 9, 3, 0), TEN)),
            (TEN, TEN, ("mul", Y, ("num", 3)), simple("x", 1), ((2, 8, 3, 2), TEN)),
            (TEN, TEN, DOUBLE, ("num", 7), None), (TEN, TEN, DOUBLE, ("num", 8), (TEN, TEN)),
            (TEN, TEN, ONE, ONE, (TEN, TEN)),
            (TEN, TEN, ONE, ZERO, None), (TEN, TEN, BAD, X, None), (TEN, TEN, X, NO_ITEM, None),
        ]:
            self.both(x, y, "when", ("equal", e, f), expected)
            self.both(x, y, "when", ("equal", f, e), expected)

    def test_false(self):
        for x, y, e, f, expected in [
            (TEN, N0, X, Y, ((1, 10, 1, 0), N0)), (TEN, single(10), X, Y, ((0, 9, 1, 0), single(10))),
            (TEN, N5, X, Y, (TEN, N5)),
            (N5, N5, X, Y, None), (N5, N1, X, Y, (N5, N1)), (TEN, TEN, X, Y, (TEN, TEN)),
            ((0, 4, 4, 0), N0, X, Y, (single(4), N0)),
            (EVEN, N0, X, ("num", 10), ((0, 8, 2, 0), N0)), (FROM0, N5, X, ZERO, ((1, None, 1, 0), N5)),
            ((None, 0, 1, 0), N5, X, ZERO, ((None, -1, 1, 0), N5)), (EVERY, N5, X, ZERO, (EVERY, N5)),
            (TEN, N5, simple("x", 3), ("num", 3), ((1, 10, 1, 0), N5)),
            (TEN, N5, simple("x", 3), ("num", 13), ((0, 9, 1, 0), N5)),
            (TEN, N5, simple("x", 3), ("num", 10), (TEN, N5)),
            (TEN, N5, simple("x", -3), ("num", -3), ((1, 10, 1, 0), N5)),
            (TEN, N5, DOUBLE, ZERO, (TEN, N5)), (N0, N5, DOUBLE, ZERO, None), (TEN, N5, ONE, ONE, None),
            (TEN, N5, ONE, ZERO, (TEN, N5)),
            (TEN, (0, 20, 2, 0), simple("x", 3), DOUBLE, (TEN, (0, 20, 2, 0))), (TEN, TEN, BAD, X, None),
            (TEN, TEN, X, NO_ITEM, None),
            (TEN, single(13), simple("x", 3), Y, ((0, 9, 1, 0), single(13))),
            # x is 4 alone and y from 5 on: y is not 5, which is looked at with both shifts
            (single(4), (5, 9, 1, 0), simple("x", 3), simple("y", 2), (single(4), (6, 9, 1, 0))),
            (single(4), (1, 5, 1, 0), simple("x", 3), simple("y", 2), (single(4), (1, 4, 1, 0))),
        ]:
            self.both(x, y, "unless", ("equal", e, f), expected)
            self.both(x, y, "unless", ("equal", f, e), expected)

    def test_the_same_variable(self):
        for s, t in itertools.product((-2, 0, 1, 3), repeat=2):
            atom = ("equal", simple("x", s), simple("x", t))
            for x in (EVERY, TEN):
                for has_gaps in (False, True):
                    start = state(x, N0, (None, None) if has_gaps else None)
                    still = tightened(start)
                    self.rows(start, [(("when", atom), still if s == t else None),
                        (("unless", atom), None if s == t else still)])

    def test_gaps(self):
        free = state(EVERY, EVERY, (None, None))
        for s, t in itertools.product((-2, 0, 3), repeat=2):
            atom = ("equal", simple("x", s), simple("y", t))
            self.rows(free, [(("when", atom), state(EVERY, EVERY, (t - s, s - t))), (("unless", atom), free)])
        self.rows(state(TEN, TEN, (2, -1)), [(("when", ("equal", X, Y)), None),
            (("unless", ("equal", X, Y)), state((1, 10, 1, 0), (0, 9, 1, 0), (2, -1)))])
        self.rows(state(TEN, TEN, (0, 0)), [(("when", ("equal", X, Y)), state(TEN, TEN, (0, 0))),
            (("unless", ("equal", X, Y)), state(TEN, TEN, (0, 0)))])
        self.rows(free, [(("when", ("equal", X, ("add", ONE, Y))), free)])


class Calls(unittest.TestCase):
    CALLEE = body(("set", "z", ONE), name="g", parameters=("p", "q"), result=("add", ("var", "p"), ("var", "z")))
    PROGRAM = (body(), ("two",) + TWO_OF[1:], CALLEE)

    def call(self, *parts):
        return ("call", "x", "g", parts)

    def test_called(self):
        for start, parts, expected in [
            (state(TEN, EVEN), (X, ("add", Y, ONE)), [TEN, (1, 11, 2, 1)]), (state(TEN, EVEN), (BAD, X), None),
            (state(TEN, EVEN), (X, NO_ITEM), None), (None, (X, Y), None), (NOWHERE, (ONE, ONE), None),
            (state(TEN, EVERY), (("add", TOP, X), Y), [single(GREATEST), ALL]),
            (state(TEN, EVERY), (X, ("add", TOP, ONE)), None),
            (state(TEN, EVERY), (("sub", ("num", -GREATEST), X), ZERO), [single(-GREATEST), N0]),
            (LOOSE, (X, ("sub", X, Y)), [(0, 6, 1, 0), (-4, 2, 1, 0)]),
            (state((0, 12, 3, 0), (0, 20, 4, 0), (-1, 2)), (X, Y), [(0, 12, 3, 0), (4, 12, 4, 0)]),
        ]:
            self.assertEqual(called(self.PROGRAM, 1, start, self.call(*parts)), expected)
        self.assertEqual(called(TWO, 0, (((3, 9, 1, 0),), None, ()), TWO[0][3][0]), [(3, 9, 1, 0)])
        self.assertEqual(called((body(),), 0, ((), None, ()), ("call", "x", "main", ())), [])

    def test_returned(self):
        # the variables of g are p, q, z
        exit_state = ((TEN, N0, N1), None, ())
        for start, expected in [
            (state(EVEN, EVEN), state((1, 11, 1, 0), EVEN)), (state(TEN, N5, None, (((3, N5),), ((1, EVEN),))),
                                                              state((1, 11, 1, 0), N5, None,
                                                                  (((3, N5),), ((1, EVEN),)))), (None, None),
        ]:
            self.assertEqual(returned(self.PROGRAM, 1, start, self.call(X, Y), exit_state), expected)
        self.assertIsNone(returned(self.PROGRAM, 1, state(TEN, TEN), self.call(X, Y), None))

    def test_the_variable_of_the_call(self):
        found = returned(self.PROGRAM, 1, state(TEN, EVEN), ("call", "y", "g", (X, Y)), ((TEN, N0, N1), None, ()))
        self.assertEqual(found, state(TEN, (1, 11, 1, 0)))

    def test_returned_greatest(self):
        for p, z, expected in [
            (EVERY, N1, ALL), (single(GREATEST), N0, single(GREATEST)), (single(GREATEST), N1, None),
            (single(-GREATEST), N0, single(-GREATEST)),
            (single(-GREATEST), single(-1), None), ((GREATEST - 1, GREATEST, 1, 0), N1, single(GREATEST)),
        ]:
            found = returned(self.PROGRAM, 1, state(TEN, TEN), self.call(X, Y), ((p, N0, z), None, ()))
            self.assertEqual(found, None if expected is None else state(expected, TEN))

    def test_returned_without_a_value(self):
        callee = body(name="g", parameters=("p", "q"), result=("div", ("var", "p"), ("var", "q")))
        program = (self.PROGRAM[1], callee)
        self.assertIsNone(returned(program, 0, state(TEN, TEN), self.call(X, Y), ((TEN, N0), None, ())))
        self.assertEqual(returned(program, 0, state(TEN, TEN), self.call(X, Y), ((TEN, single(2)), None, ())),
                         state((0, 5, 1, 0), TEN))

    def test_returned_with_gaps(self):
        exit_gaps = ((0, None, 3), (None, 0, None), (None, None, 0))
        exit_state = ((EVERY, N0, N1), exit_gaps, ())
        # p is at most 4 in the tightened copy, the result at most 5; y keeps the span that its gaps told
        self.assertEqual(returned(self.PROGRAM, 1, LOOSE, self.call(X, Y), exit_state),
                         state((-GREATEST, 5, 1, 0), (0, 4, 1, 0), (5, GREATEST + 4)))
        self.assertIsNone(returned(self.PROGRAM, 1, NOWHERE, self.call(X, Y), exit_state))
        nowhere = ((TEN, N0, N1), ((0, None, -20), (None, 0, None), (None, None, 0)), ())
        self.assertIsNone(returned(self.PROGRAM, 1, LOOSE, self.call(X, Y), nowhere))
        wide = state(TEN, EVERY, (2, 1))
        self.assertEqual(returned(self.PROGRAM, 1, wide, self.call(X, Y), ((TEN, N0, N1), exit_gaps, ())),
                         state((1, 5, 1, 0), (-2, 11, 1, 0), (7, 10)))

    def test_a_call_of_the_function_itself(self):
        program = (body(("call", "x", "main", (("add", X, ONE),)), parameters=("x",), result=("mul", X, ("num", 2))),)
        call = program[0][3][0]
        self.assertEqual(called(program, 0, ((TEN,), None, ()), call), [(1, 11, 1, 0)])
        self.assertEqual(returned(program, 0, ((TEN,), None, ()), call, ((EVEN,), None, ())),
            (((0, 20, 4, 0),), None, ()))


def exact(function, frame, has_gaps):
    """The state that describes this frame alone, as far as a state can."""
    numbers, rows = frame
    gaps = tuple(tuple(a - b for b in numbers) for a in numbers) if has_gaps else None
    pieces = []
    for row in rows:
        ends = [k + 1 for k in range(len(row)) if k + 1 == len(row) or row[k] != row[k + 1]]
        pieces.append(tuple((end, single(row[end - 1])) for end in ends))
    return (tuple(single(n) for n in numbers), gaps, tuple(pieces))


class Runs(unittest.TestCase):
    def test_each_frame_is_described_behind_each_action(self):
        chance = random.Random(8)
        steps = 0
        for thing in likely(60) + made(40):
            tables = [edges(function) for function in thing]
            for has_gaps in (False, True):
                numbers = [chance.randint(-4, 8) for _ in thing[0][1]]
                trace = run(thing, numbers, [chance.randint(-3, 5) for _ in range(20)], 120)[1]
                waiting = []
                for ((f, k), frame), ((g, q), after) in zip(trace, trace[1:]):
                    steps += 1
                    start = exact(thing[f], frame, has_gaps)
                    others = [old for (h, _), old in trace if h == f][:3]
                    for other in others:
                        start = state_join(start, exact(thing[f], other, has_gaps))
                    ways = [(action, stop) for at, action, stop in tables[f] if at == k]
                    if not ways:
                        back, action, kept = waiting.pop()
                        found = returned(thing, back, exact(thing[back], kept, has_gaps), action, start)
                        self.assertTrue(covers(thing[back], found, after))
                    elif ways[0][0][0] == "call":
                        waiting.append((f, ways[0][0], frame))
                        values = called(thing, f, start, ways[0][0])
                        arguments = after[0][:len(values)]
                        self.assertTrue(all(low is None or low <= n for n, (low, _, _, _) in zip(arguments, values)))
                        self.assertTrue(all(high is None or n <= high for n, (_, high, _, _) in zip(arguments, values)))
                    else:
                        action = [action for action, stop in ways if stop == q][0]
                        self.assertTrue(covers(thing[f], transferred(thing[f], start, action), after), (start, action))
        self.assertGreater(steps, 5000)


class SmallNumbers(unittest.TestCase):
    """Every frame that a state describes is described behind the action, if it gets there."""

    def expression(self, chance):
        kind = chance.random()
        if kind < 0.7:
            return simple(chance.choice("xy"), chance.randint(-3, 3))
        if kind < 0.8:
            return ("num", chance.randint(-3, 3))
        return (chance.choice(["add", "sub", "mul"]), simple(chance.choice("xy"), 0), simple(chance.choice("xy"), 1))

    def action(self, chance):
        sign = chance.choice(["when", "unless", "when", "unless", "set", "nonzero", "within", "skip", "put"])
        if sign in ("when", "unless"):
            return (sign, (chance.choice(["less", "equal"]), self.expression(chance), self.expression(chance)))
        if sign == "set":
            return (sign, chance.choice("xy"), self.expression(chance))
        if sign == "nonzero":
            return (sign, self.expression(chance))
        if sign == "within":
            return (sign, "a", self.expression(chance))
        if sign == "put":
            return (sign, "a", ("num", chance.randint(0, 2)), self.expression(chance))
        return (sign,)

    def after(self, action, numbers):
        """The numbers and items behind the action; None if a run does not get there."""
        named, arrays = dict(zip(variables(TWO_OF), numbers)), {"a": [0, 0, 0], "b": [0]}
        walker = Walker((TWO_OF,), ())
        try:
            if action[0] in ("when", "unless"):
                if walker.truth(action[1], named, arrays) != (action[0] == "when"):
                    return None
            elif action[0] == "nonzero":
                walker.value(("div", ONE, action[1]), named, arrays)
            elif action[0] == "within":
                walker.index("a", action[2], named, arrays)
            elif action[0] != "skip":
                walker.one(action, named, arrays)
        except End:
            return None
        return tuple(named[name] for name in variables(TWO_OF)), (tuple(arrays["a"]), tuple(arrays["b"]))

    def test_all_frames(self):
        chance = random.Random(10)
        reached = 0
        for _ in range(700):
            start = drawn_state(chance, chance.random() < 0.7)
            start = (start[0], start[1], ZEROS)
            action = self.action(chance)
            found = transferred(TWO_OF, start, action)
            for numbers in frames(start):
                frame = self.after(action, numbers)
                if frame is not None:
                    reached += 1
                    self.assertTrue(covers(TWO_OF, found, frame), (start, action, numbers))
        self.assertGreater(reached, 5000)


class AllActions(unittest.TestCase):
    """Everything is as the words of the document say, one after the other."""

    def draws(self, seed, many):
        drawing = Drawing(random.Random(seed))
        for _ in range(many):
            has_gaps = drawing.chance.random() < 0.6
            yield drawing, drawing.state(CALLER, has_gaps), has_gaps

    def test_transferred(self):
        seen = {}
        for drawing, start, _ in self.draws(1, 4000):
            action = drawing.action()
            found = transferred(CALLER, start, action)
            self.assertEqual(found, transferred_by_the_words(CALLER, start, action), (start, action))
            key = (action[0], found is None)
            seen[key] = seen.get(key, 0) + 1
        self.assertEqual(len(seen), 16)
        self.assertGreater(min(seen.values()), 50)

    def test_expression_value(self):
        for drawing, start, _ in self.draws(2, 2500):
            e = drawing.expression(3)
            found = expression_value(CALLER, start, e)
            self.assertEqual(found, expression_value_by_the_words(CALLER, start, e), (start, e))

    def test_called_and_returned(self):
        thing = (CALLER, CALLEE)
        for drawing, start, has_gaps in self.draws(3, 2500):
            call, last = drawing.call(), drawing.state(CALLEE, has_gaps)
            self.assertEqual(called(thing, 0, start, call), called_by_the_words(thing, 0, start, call), (start, call))
            found = returned(thing, 0, start, call, last)
            self.assertEqual(found, returned_by_the_words(thing, 0, start, call, last), (start, call, last))


class General(unittest.TestCase):
    ACTIONS = [("skip",), ("nonzero", X), ("within", "a", X), ("set", "x", Y), ("input", "x", 1, None),
        ("put", "a", ONE, X),
               ("when", ("less", X, Y)), ("unless", ("equal", X, Y)), ("set", "y", ("add", ("item", "a", ONE), X))]

    def test_lists_names_and_unchanged_arguments(self):
        lists = as_lists(TWO_OF)
        for has_gaps in (True, False):
            for action in self.ACTIONS:
                start = state(TEN, EVEN, (9, 9) if has_gaps else None)
                left, step = as_lists(start), as_lists(action)
                found = transferred(action=step, state=left, function=lists)
                self.assertEqual(found, transferred(TWO_OF, start, action))
                self.assertFalse(has_list(found) or isinstance(found, list))
                self.assertEqual((left, step, lists), (as_lists(start), as_lists(action), as_lists(TWO_OF)))

    def test_calls(self):
        program, call = Calls.PROGRAM, ("call", "x", "g", (X, ("add", Y, ONE)))
        lists, step, start = as_lists(program), as_lists(call), as_lists(state(TEN, EVEN, (9, 9)))
        last = ((TEN, N0, N1), ((0, None, None), (None, 0, None), (None, None, 0)), ())
        values = called(action=step, state=start, f=1, program=lists)
        self.assertEqual(values, called(program, 1, state(TEN, EVEN, (9, 9)), call))
        self.assertIs(type(values), list)
        self.assertFalse(has_list(tuple(values)))
        found = returned(exit_state=as_lists(last), action=step, state=start, f=1, program=lists)
        self.assertEqual(found, returned(program, 1, state(TEN, EVEN, (9, 9)), call, last))
        self.assertFalse(has_list(found))
        self.assertEqual((lists, step, start), (as_lists(program), as_lists(call), as_lists(state(TEN, EVEN, (9, 9)))))
        values.clear()
        self.assertEqual(len(called(lists, 1, start, step)), 2)

    def test_the_exit_belongs_to_the_called_function(self):
        self.assertEqual(exit_of(Calls.CALLEE), 1)
        found = returned(TWO, 0, ((N0,), None, ()), TWO[0][3][0], ((N5,), None, ()))
        self.assertEqual(found, ((single(6),), None, ()))


if __name__ == "__main__":
    unittest.main()
