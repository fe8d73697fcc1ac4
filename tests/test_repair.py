"""repair.py ([21])."""

import copy
import unittest

from shadowruns.checker import confirms, first_outside, is_table, tables_within
from shadowruns.engine import Settings, analyse, incoming
from shadowruns.graph import heads, points_many
from shadowruns.repair import carried, go_on
from shadowruns.splits import folded, unrolled
from shadowruns.states import state_join, state_widen, state_within
from shadowruns.values import EVERY, single
from tests.samples import LOOP, MORE, ONE, TINY, TWO, X, Y, ZERO, as_lists, body, has_list, program
from tests.tables import N0, all_points, draws, loop_to, num, only, runs_of


def empty(thing):
    return [[None] * points_many(function) for function in thing]


def gone_on_by_the_words(thing, begin, table, settings):
    states = [state for row in table for state in row if state is not None]
    gaps = states[0][1] is not None if states else settings.gaps
    rows = [list(row) for row in table]
    wide = heads(thing)
    points = [point for point in settings.order if point in all_points(thing)]
    points += [point for point in all_points(thing) if point not in points]
    changes = dict.fromkeys(points, 0)
    changed = True
    while changed:
        changed = False
        for f, k in points:
            new = incoming(thing, begin, rows, (f, k), gaps)
            if not state_within(new, rows[f][k]):
                changed = True
                changes[f, k] += 1
                both = state_join(rows[f][k], new)
                if (f, k) in wide and changes[f, k] >= settings.delay + 1:
                    both = state_widen(rows[f][k], both, settings.marks)
                rows[f][k] = both
    return rows


def rough_tables(chance, thing, begin, settings):
    """Tables to go on from: nothing, confirmed ones, ones with states left out, ones with other states."""
    table = analyse(thing, begin, settings)
    yield empty(thing)
    yield table
    yield [[state if chance.random() < 0.7 else None for state in row] for row in table]
    yield analyse(thing, [chance.choice([EVERY, N0, (0, 5, 1, 0)]) for _ in begin],
                  Settings(gaps=settings.gaps, narrow=0, delay=0))


class Examples(unittest.TestCase):
    def test_of_the_document(self):
        self.assertEqual(go_on(LOOP, (), [[None] * 5])[0][3], only((10, None, 2, 0)))
        self.assertEqual(carried(LOOP, analyse(LOOP, ()), TWO)[0], [None, None, None])


class Carried(unittest.TestCase):
    A, B, C = (body(("set", "x", num(n)), name=name, parameters=("n",)) for n, name in enumerate("abc"))
    ROWS = [[only(single(n), single(n)), only(single(n), single(n + 9))] for n in range(3)]

    def test_the_same_program(self):
        old = (self.A, self.B, self.C)
        found = carried(old, self.ROWS, old)
        self.assertEqual(found, self.ROWS)

    def test_another_order(self):
        old = (self.A, self.B, self.C)
        self.assertEqual(carried(old, self.ROWS, (self.C, self.A, self.B)), [self.ROWS[2], self.ROWS[0], self.ROWS[1]])

    def test_one_changed_one_left_out_one_more(self):
        old = (self.A, self.B, self.C)
        other = body(name="b", parameters=("n",))
        self.assertEqual(carried(old, self.ROWS, (self.A, other, self.C)), [self.ROWS[0], [None], self.ROWS[2]])
        self.assertEqual(carried(old, self.ROWS, (self.A, self.C)), [self.ROWS[0], self.ROWS[2]])
        self.assertEqual(carried(old, self.ROWS, (self.A, MORE, self.B, self.C)),
                         [self.ROWS[0], [None], self.ROWS[1], self.ROWS[2]])
        self.assertEqual(carried(old[:1], self.ROWS[:1], (self.B, self.C)), [[None, None]] * 2)

    def test_the_same_but_for_its_name(self):
        self.assertEqual(carried((self.A,), self.ROWS[:1], (("z",) + self.A[1:],)), [[None, None]])

    def test_any_part_that_differs(self):
        function = body(("set", "x", ONE), parameters=("x",), arrays=(("a", 2),), result=X)
        for other in [("main", ("y",)) + function[2:], function[:2] + ((("a", 3),),) + function[3:],
                      function[:3] + ((("set", "x", num(2)),),) + function[4:], function[:4] + (ONE,)]:
            self.assertEqual(carried((function,), [[5, 5]], (other,)), [[None] * points_many(other)])
        self.assertEqual(carried((function,), [[5, 5]], (function,)), [[5, 5]])

    def test_rows_of_its_own(self):
        table = analyse(TWO, ())
        kept = copy.deepcopy(table)
        found = carried(TWO, table, TWO)
        self.assertEqual(found, kept)
        found[0][0] = None
        found[1].clear()
        found.clear()
        self.assertEqual(table, kept)
        self.assertEqual(carried(TWO, table, TWO), kept)

    def test_lists_names_and_unchanged_arguments(self):
        table = as_lists(analyse(TWO, ()))
        old, new = as_lists(TWO), as_lists(TWO[::-1])
        found = carried(program=new, table=table, old=old)
        self.assertEqual(found, analyse(TWO, ())[::-1])
        self.assertEqual((old, new, table), (as_lists(TWO), as_lists(TWO[::-1]), as_lists(analyse(TWO, ()))))
        self.assertFalse(any(has_list(state) or type(state) is list for row in found for state in row))
        self.assertEqual(carried(TWO, tuple(map(tuple, analyse(TWO, ()))), TWO), analyse(TWO, ()))


class GoOn(unittest.TestCase):
    def test_from_nothing(self):
        self.assertEqual(go_on(TINY, ((1, 4, 1, 0),), empty(TINY)), analyse(TINY, ((1, 4, 1, 0),)))
        self.assertEqual(go_on(LOOP, (), empty(LOOP))[0][1], only((0, None, 2, 0)))

    def test_a_confirmed_table_stays(self):
        for _, thing, begin, settings in draws(1, 40):
            table = analyse(thing, begin, settings)
            self.assertEqual(go_on(thing, begin, table, settings), table)
            self.assertEqual(go_on(thing, begin, table), table)
        wide = [[only(EVERY)] * 5]
        self.assertEqual(go_on(LOOP, (), wide), wide)

    def test_states_that_are_greater_stay_greater(self):
        table = analyse(LOOP, ())
        table[0][3] = only((0, 99, 1, 0))
        self.assertEqual(go_on(LOOP, (), table), table)
        table = analyse(LOOP, ())
        table[0][1] = only((0, 13, 1, 0))
        found = go_on(LOOP, (), table)
        self.assertEqual(found[0], [only(N0), only((0, 13, 1, 0)), only((0, 9, 1, 0)), only((10, 13, 1, 0)),
                                    only((2, 11, 1, 0))])

    def test_a_begin_that_is_wider(self):
        table = analyse(TINY, ((1, 4, 1, 0),))
        found = go_on(TINY, ((3, 8, 1, 0),), table)
        self.assertEqual(found[0][0], only((1, 8, 1, 0), N0))
        self.assertIs(confirms(TINY, ((1, 8, 1, 0),), found), True)

    def test_by_the_words(self):
        for chance, thing, begin, settings in list(draws(2, 15))[::2]:
            for table in rough_tables(chance, thing, begin, settings):
                self.assertEqual(go_on(thing, begin, table, settings), gone_on_by_the_words(thing, begin, table, settings))

    def test_what_comes_of_it(self):
        for chance, thing, begin, settings in draws(3, 30):
            for table in rough_tables(chance, thing, begin, settings):
                found = go_on(thing, begin, table, settings)
                self.assertIs(is_table(thing, found), True)
                self.assertIs(confirms(thing, begin, found), True)
                self.assertIs(tables_within(table, found), True)
                for _, trace in runs_of(chance, thing, begin, 2):
                    self.assertIsNone(first_outside(thing, found, trace))

    def test_from_what_was_carried(self):
        for chance, thing, begin, settings in draws(4, 40):
            table = analyse(thing, begin, settings)
            f = chance.randrange(len(thing))
            changed = thing[:f] + (thing[f][:3] + (thing[f][3][1:],) + thing[f][4:],) + thing[f + 1:]
            found = go_on(changed, begin, carried(thing, table, changed), settings)
            self.assertIs(confirms(changed, begin, found), True)
            for _, trace in runs_of(chance, changed, begin, 2):
                self.assertIsNone(first_outside(changed, found, trace))

    def test_from_what_was_folded(self):
        for _, thing, begin, settings in draws(5, 20):
            new, origins = unrolled(thing, 1)
            table = folded(thing, origins, analyse(new, begin, settings))
            found = go_on(thing, begin, table, settings)
            self.assertIs(confirms(thing, begin, found), True)
            self.assertIs(tables_within(table, found), True)


class EachSetting(unittest.TestCase):
    FIVE = (body(loop_to("x", num(5)), result=X),)

    def head(self, table=None, **more):
        return go_on(self.FIVE, (), empty(self.FIVE) if table is None else table, Settings(**more))[0][1][0][0]

    def test_delay(self):
        self.assertEqual([self.head(delay=n) for n in (0, 4, 5, 6, 40)],
                         [(0, None, 1, 0), (0, None, 1, 0), (0, None, 1, 0), (0, 5, 1, 0), (0, 5, 1, 0)])

    def test_changes_are_counted_anew(self):
        # the head has a state already; its next change is number 1
        table = empty(self.FIVE)
        table[0][1] = only((0, 2, 1, 0))
        self.assertEqual([self.head(table, delay=n) for n in (0, 1, 2, 3, 4)],
                         [(0, None, 1, 0), (0, None, 1, 0), (0, None, 1, 0), (0, 5, 1, 0), (0, 5, 1, 0)])

    def test_marks(self):
        self.assertEqual(self.head(marks=(3, 8, 20), delay=0), (0, 8, 1, 0))
        self.assertEqual(self.head(marks=(3,), delay=0), (0, None, 1, 0))

    def test_no_narrowing(self):
        for narrow in (0, 1, 6):
            self.assertEqual(self.head(narrow=narrow), (0, None, 1, 0))

    def test_order(self):
        different = 0
        for chance, thing, begin, _ in draws(7, 40):
            order = all_points(thing)[::-1] + [(7, 7)]
            for more in (dict(), dict(delay=0, marks=(3,))):
                one = go_on(thing, begin, empty(thing), Settings(**more))
                other = go_on(thing, begin, empty(thing), Settings(order=order, **more))
                different += one != other
        self.assertGreater(different, 3)

    def test_all_points_are_one_part(self):
        # in parts, the second loop is looked at when the first one has its last state; here it is widened meanwhile
        first = ("while", ("equal", Y, ZERO), (("set", "x", ("add", X, ONE)), ("input", "y", 0, 1)))
        thing = program(first, ("set", "z", X), loop_to("z", num(9)), result=X)
        for delay in range(5):
            settings = Settings(delay=delay, narrow=0, marks=(3, 5, 20))
            found = go_on(thing, (), empty(thing), settings)
            self.assertEqual(found, gone_on_by_the_words(thing, (), empty(thing), settings))
            self.assertNotEqual(found, analyse(thing, (), settings))

    def test_gaps_are_looked_at_only_without_any_state(self):
        for has_gaps in (False, True):
            settings = Settings(gaps=has_gaps)
            found = go_on(TINY, (EVERY,), empty(TINY), settings)
            self.assertEqual(found, analyse(TINY, (EVERY,), settings))
            self.assertEqual(found[0][0][1] is not None, has_gaps)
            table = empty(TINY)
            table[0][2] = analyse(TINY, (N0, ), Settings(gaps=not has_gaps))[0][0]
            found = go_on(TINY, (EVERY,), table, settings)
            self.assertTrue(all((state[1] is not None) != has_gaps for state in found[0]))
        self.assertIsNone(go_on(TINY, (EVERY,), empty(TINY))[0][0][1])

    def test_no_settings(self):
        for thing in (LOOP, TWO, self.FIVE):
            found = go_on(thing, (), empty(thing))
            self.assertEqual(found, go_on(thing, (), empty(thing), None))
            self.assertEqual(found, go_on(thing, (), empty(thing), settings=Settings()))


class Arguments(unittest.TestCase):
    def test_lists_names_and_unchanged_arguments(self):
        for chance, thing, begin, settings in draws(6, 15):
            for table in rough_tables(chance, thing, begin, settings):
                rows, lists, values = as_lists(table), as_lists(thing), as_lists(begin)
                kept = copy.deepcopy((table, rows, lists, values))
                found = go_on(settings=settings, table=rows, begin=values, program=lists)
                self.assertEqual(found, go_on(thing, begin, table, settings))
                self.assertEqual(found, go_on(thing, begin, tuple(map(tuple, table)), settings))
                self.assertEqual((table, rows, lists, values), kept)
                self.assertTrue(type(found) is list and all(type(row) is list for row in found))
                self.assertFalse(any(has_list(state) or type(state) is list for row in found for state in row))

    def test_rows_of_its_own(self):
        table = analyse(LOOP, ())
        kept = copy.deepcopy(table)
        found = go_on(LOOP, (), table)
        found[0].clear()
        found.clear()
        self.assertEqual(table, kept)
        self.assertEqual(go_on(LOOP, (), table), kept)


if __name__ == "__main__":
    unittest.main()
