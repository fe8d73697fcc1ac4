"""checker.py ([16]), with guarantee (b) of [1]."""

import copy
import unittest

from shadowruns.checker import (
    confirms, first_break, first_outside, is_table, result_of, tables_meet, tables_within,
)
from shadowruns.engine import Settings, analyse, incoming
from shadowruns.gaps import no_gaps
from shadowruns.graph import exit_of
from shadowruns.limits import GREATEST
from shadowruns.running import run
from shadowruns.states import covers, expression_value, state_meet, state_within
from shadowruns.values import EVERY, contains, single, value_join, value_meet
from tests.samples import LOOP, TINY, TWO, X, Y, as_lists, body, has_list, program
from tests.tables import BEGINS, N0, all_points, draws, only, runs_of

# two variables and two arrays, and a function without any
SHAPE = (
    body(("set", "y", X), parameters=("x",), arrays=(("a", 3), ("b", 1)), result=Y),
    body(name="f"),
)
ODD = (1, None, 2, 1)
STATE = ((ODD, N0), ((0, 4), (None, 0)), (((1, N0), (3, (0, 1, 1, 0))), ((1, EVERY),)))
EMPTY = ((), (), ())
TABLE = [[STATE, STATE], [EMPTY]]


def changed(thing, way, new):
    """The thing with something else at the end of a way of indices."""
    if not way:
        return new
    rows = list(thing)
    rows[way[0]] = changed(rows[way[0]], way[1:], new)
    return rows if isinstance(thing, list) else tuple(rows)


def without_gaps(table):
    return [[None if state is None else (state[0], None, state[2]) for state in row] for row in table]


def deep(levels, kind):
    thing = 0
    for _ in range(levels):
        thing = kind([thing])
    return thing


def begin_within(chance, begin):
    """A begin within another one."""
    found = []
    for value in begin:
        cut = value_meet(value, chance.choice(BEGINS))
        found.append(value if cut is None else cut)
    return tuple(found)


def first_break_by_the_words(thing, begin, table):
    for f, k in all_points(thing):
        if not state_within(incoming(thing, begin, table, (f, k)), table[f][k]):
            return (f, k)
    return None


class Examples(unittest.TestCase):
    def test_of_the_document(self):
        self.assertIs(confirms(LOOP, (), analyse(LOOP, ())), True)
        self.assertEqual(first_break(LOOP, (), [[None] * 5]), (0, 0))
        self.assertEqual(result_of(LOOP, analyse(LOOP, ())), (10, 10, 0, 10))


class IsTable(unittest.TestCase):
    def yes(self, thing):
        self.assertIs(is_table(SHAPE, thing), True, thing)

    def no(self, *things):
        for thing in things:
            self.assertIs(is_table(SHAPE, thing), False, thing)

    def with_part(self, way, *news):
        """The tables with something else in the first state."""
        return [changed(TABLE, [0, 0] + way, new) for new in news]

    def test_tables(self):
        self.yes(TABLE)
        self.yes(without_gaps(TABLE))
        self.yes([[None, None], [None]])
        self.yes([[STATE, None], [None]])
        self.yes([[None, None], [EMPTY]])
        self.yes([[None, None], [((), None, ())]])

    def test_what_analyse_returns(self):
        for _, thing, begin, settings in draws(1, 40):
            table = analyse(thing, begin, settings)
            self.assertIs(is_table(thing, table), True)
            self.assertIs(is_table(as_lists(thing), table), True)
            self.assertIs(is_table(thing, tuple(table)), False)
            self.assertIs(is_table(thing, [tuple(row) for row in table]), False)
            if any(state is not None for row in table for state in row):
                self.assertIs(is_table(thing, as_lists(table)), False)

    def test_the_lists(self):
        self.no((), [], [[]], tuple(TABLE), TABLE[:1], TABLE + [[None]], TABLE + [[]], [[STATE, STATE], []],
                [[STATE], [EMPTY]], [[STATE, STATE, STATE], [EMPTY]], [[STATE, STATE], [EMPTY, EMPTY]],
                [(STATE, STATE), [EMPTY]], [[STATE, STATE], (EMPTY,)], [[EMPTY], [STATE, STATE]],
                [[STATE, STATE], None], [None, None], {0: TABLE[0], 1: TABLE[1]}, [[STATE, STATE], {0: EMPTY}])

    def test_the_state(self):
        values, gaps, items = STATE
        self.no(*self.with_part([], False, True, 0, "", (), [], "abc", (values, gaps), (values, gaps, items, None),
                                [values, gaps, items], (values, items, gaps), ((), gaps, items), EMPTY, STATE[0]))

    def test_the_values(self):
        self.no(*self.with_part([0], None, (), (ODD,), (ODD, N0, N0), [ODD, N0], "ab", 5, {0: ODD, 1: N0}))
        self.no(*self.with_part([0, 1], None, 0, True, (), (0, 0, 0), (0, 0, 0, 0, 0), [0, 0, 0, 0], "0000"))

    def test_one_value(self):
        for value in [EVERY, (None, None, 7, 6), (None, 3, 1, 0), (-6, 6, 3, 0), (5, 5, 0, 5), (10 ** 40, None, 5, 0),
                      (0, 1, 1, 0), (0, 6, 6, 0)]:
            self.yes(self.with_part([0, 1], value)[0])
        # a remainder that is none, bounds that are not in it, one integer with a modulus, none at all
        self.no(*self.with_part(
            [0, 1], (0, 9, 2, 0), (1, 10, 2, 0), (None, 9, 2, 0), (1, None, 2, 0), (None, None, 2, 2),
            (None, None, 2, -1), (None, None, 0, 0), (None, None, -1, 0), (None, None, -2, -1), (None, None, 1, 1),
            (0, 0, 1, 0), (4, 4, 2, 0), (4, 4, 0, 5), (4, 4, 0, 0), (3, 5, 0, 4), (4, None, 0, 4), (None, 4, 0, 4),
            (5, 4, 1, 0), (4, 2, 2, 0), (9, 3, 3, 0), (0, 2, 3, 0), (0, 5, -5, 0), (0, -1, 1, 0)))
        self.no(*self.with_part(
            [0, 1], (False, 4, 1, 0), (0, True, 1, 0), (0, 4, True, 0), (0, 4, 1, False), (False, False, 0, False),
            (0, 0, False, 0), ("0", 4, 1, 0), (0, "4", 1, 0), (0, 4, None, 0), (0, 4, 1, None), (0, 4, 1, (0,)),
            ((0,), 4, 1, 0), (0, 4, "1", 0)))

    def test_gaps(self):
        for gaps in [no_gaps(2), ((0, -3), (-9, 0)), ((0, 0), (10 ** 40, 0))]:
            self.yes([[(STATE[0], gaps, STATE[2]), None], [None]])
        self.no(*self.with_part(
            [1], (), ((0,),), ((0, 4),), no_gaps(1), no_gaps(3), ((0, 4), (None, 0), (0, 0)), ((0, 4, 0), (None, 0, 0)),
            ((0,), (None, 0)), [(0, 4), (None, 0)], ([0, 4], (None, 0)), ((0, 4), "ab"), ((0, 4), None), 0, True,
            False, "gaps", ((1, 4), (None, 0)), ((0, 4), (None, -1)), ((None, 4), (None, 0)), ((0, 4), (None, None)),
            ((False, 4), (None, 0)), ((0, 4), (None, False)), ((0, True), (None, 0)), ((0, "4"), (None, 0)),
            ((0, 4), ((), 0)), ((0, 4), (False, 0))))

    def test_gaps_in_some_states_only(self):
        self.no([[STATE, without_gaps(TABLE)[0][0]], [None]], [[without_gaps(TABLE)[0][0], STATE], [None]],
                [[STATE, None], [((), None, ())]], [[without_gaps(TABLE)[0][0], None], [EMPTY]])
        self.yes([[None, without_gaps(TABLE)[0][0]], [((), None, ())]])

    def test_pieces(self):
        one, two = (0, 1, 1, 0), EVERY
        for pieces in [((3, one),), ((1, one), (3, two)), ((2, one), (3, two)), ((1, one), (2, two), (3, one))]:
            self.yes(self.with_part([2, 0], pieces)[0])
        self.no(*self.with_part(
            [2, 0], (), None, 0, True, "abc", one, [(3, one)], ([3, one],), ((3, list(one)),), ((3,),),
            ((3, one, two),), ((one, 3),), (3, one), ((3, None),), ((3, (0, 9, 2, 0)),), ((None, one),),
            # the last end, the first one, the order, ends that are no integers
            ((2, one),), ((4, one),), ((1, one), (2, two)), ((0, one), (3, two)), ((-1, one), (3, two)),
            ((2, one), (2, two), (3, one)), ((2, one), (1, two), (3, one)), ((3, one), (3, two)), ((3, one), (1, two)),
            ((True, one), (3, two)), (("1", one), (3, two)), ((1, one), ("3", two)),
            # neighbours that are equal
            ((1, one), (3, one)), ((1, two), (2, one), (3, one)), ((1, one), (2, one), (3, two))))
        self.no(*self.with_part([2, 1], ((True, EVERY),), ((1, EVERY), (2, N0)), ((2, EVERY),)))

    def test_the_arrays(self):
        rows = STATE[2]
        self.no(*self.with_part([2], (), None, rows[:1], rows + rows[:1], list(rows), rows[::-1], "ab", rows[0]))

    def test_lists_and_tuples_at_the_wrong_places(self):
        def ways(thing, way):
            if isinstance(thing, (list, tuple)):
                yield way, thing
                for k, part in enumerate(thing):
                    yield from ways(part, way + [k])

        many = 0
        for way, part in ways(TABLE, []):
            self.no(changed(TABLE, way, tuple(part) if isinstance(part, list) else list(part)))
            many += 1
        self.assertGreater(many, 30)

    def test_things_of_other_kinds(self):
        self.no(None, True, False, 0, 1, -5, "", "table", (), [], "ab", [0, 0], ["ab", "a"], [[0, 0], [0]],
                [["", ""], [""]], [[True, True], [True]], [[False, None], [None]], [[(), ()], [()]])

    def test_things_that_are_nested(self):
        for levels in (3, 10, 39, 40):
            for kind in (list, tuple):
                thing = deep(levels, kind)
                self.no(thing)
                for way in ([], [0], [0, 0], [0, 0, 0], [0, 0, 0, 0], [0, 0, 0, 0, 0], [0, 0, 1], [0, 0, 1, 0],
                            [0, 0, 1, 0, 1], [0, 0, 2], [0, 0, 2, 0], [0, 0, 2, 0, 1], [0, 0, 2, 0, 1, 0],
                            [0, 0, 2, 0, 1, 1], [0, 0, 2, 0, 1, 1, 2]):
                    self.no(changed(TABLE, way, thing))

    def test_the_table_of_another_program(self):
        self.assertIs(is_table(LOOP, analyse(TINY, (EVERY,))), False)
        self.assertIs(is_table(TWO, analyse(LOOP, ())), False)

    def test_thing_is_not_changed(self):
        kept = copy.deepcopy(TABLE)
        is_table(SHAPE, TABLE)
        is_table(thing=TABLE, program=SHAPE)
        self.assertEqual(TABLE, kept)


class Breaks(unittest.TestCase):
    def test_tables_of_analyse_are_confirmed(self):
        for chance, thing, begin, settings in draws(2, 30):
            table = analyse(thing, begin, settings)
            for given in (begin, begin_within(chance, begin)):
                self.assertIs(confirms(thing, given, table), True, (thing, given))
                self.assertIsNone(first_break(thing, given, table))

    def test_a_begin_that_is_not_within(self):
        table = analyse(TINY, ((1, 4, 1, 0),))
        for value in ((0, 4, 1, 0), (1, 5, 1, 0), EVERY, N0):
            self.assertEqual(first_break(TINY, (value,), table), (0, 0))
            self.assertIs(confirms(TINY, (value,), table), False)
        self.assertIs(confirms(TINY, ((1, 3, 2, 1),), table), True)

    def test_begins_that_no_run_has(self):
        self.assertIs(confirms(TINY, (single(GREATEST + 1),), [[None] * 3]), True)
        self.assertEqual(first_break(TINY, (single(GREATEST),), [[None] * 3]), (0, 0))

    def test_the_least_point_with_a_break(self):
        table = analyse(LOOP, ())
        # 0 skip 1; 1 when 2, unless 3; 2 set 4; 4 skip 1
        for k, expected in [(0, (0, 0)), (1, (0, 1)), (2, (0, 2)), (3, (0, 3)), (4, (0, 4))]:
            self.assertEqual(first_break(LOOP, (), changed(table, [0, k], None)), expected)
        self.assertEqual(first_break(LOOP, (), changed(changed(table, [0, 4], None), [0, 3], None)), (0, 3))
        self.assertEqual(first_break(LOOP, (), changed(table, [0, 1], only((0, 8, 2, 0)))), (0, 1))
        self.assertEqual(first_break(LOOP, (), changed(table, [0, 2], only((0, 6, 2, 0)))), (0, 2))
        self.assertEqual(first_break(LOOP, (), changed(table, [0, 1], only((0, 12, 2, 0)))), (0, 3))
        self.assertEqual(first_break(TWO, (), changed(analyse(TWO, ()), [1, 0], None)), (1, 0))

    def test_states_left_out_or_made_less(self):
        broken = 0
        for chance, thing, begin, settings in draws(3, 12):
            table = analyse(thing, begin, settings)
            places = [(f, k) for f, k in all_points(thing) if table[f][k] is not None]
            if not places:
                continue
            f, k = chance.choice(places)
            less = state_meet(table[f][k], analyse(thing, begin_within(chance, begin), settings)[f][k])
            values = list(table[f][k][0])
            if values:
                values[-1] = N0
            for state in (None, less, (tuple(values),) + table[f][k][1:]):
                rough = changed(table, [f, k], state)
                expected = first_break_by_the_words(thing, begin, rough)
                self.assertEqual(first_break(thing, begin, rough), expected)
                self.assertIs(confirms(thing, begin, rough), expected is None)
                broken += expected is not None
        self.assertGreater(broken, 50)

    def test_tables_that_no_analysis_gave(self):
        self.assertIs(confirms(LOOP, (), [[only(EVERY)] * 5]), True)
        found = [[only((0, 11, 1, 0))] * 2 + [only((0, 9, 1, 0)), only((10, 11, 1, 0)), only((2, 11, 1, 0))]]
        self.assertIs(confirms(LOOP, (), found), True)
        self.assertEqual(first_break(LOOP, (), changed(found, [0, 4], only((2, 10, 1, 0)))), (0, 4))
        self.assertEqual(first_break(LOOP, (), changed(found, [0, 1], only((0, 11, 3, 0)))), (0, 1))

    def test_confirmed_tables_describe_all_runs(self):
        for chance, thing, begin, settings in draws(4, 30):
            wide = [value_join(value, chance.choice(BEGINS)) for value in begin]
            table = tables_meet(analyse(thing, wide, settings), analyse(thing, begin, Settings(gaps=settings.gaps)))
            self.assertIs(confirms(thing, begin, table), True)
            for _, trace in runs_of(chance, thing, begin, 3):
                self.assertIsNone(first_outside(thing, table, trace))

    def test_lists_names_and_unchanged_arguments(self):
        for _, thing, begin, settings in draws(5, 20):
            table = as_lists(analyse(thing, begin, settings))
            lists, values = as_lists(thing), as_lists(begin)
            kept = copy.deepcopy((table, lists, values))
            self.assertIs(confirms(table=table, begin=values, program=lists), True)
            self.assertIsNone(first_break(table=table, begin=values, program=lists))
            self.assertEqual((table, lists, values), kept)
        point = first_break(as_lists(LOOP), [], ((None,) * 5,))
        self.assertIs(type(point), tuple)


class Meets(unittest.TestCase):
    def test_point_by_point(self):
        one = [[only((0, 9, 1, 0)), None, only(N0), only((0, 4, 2, 0)), only(EVERY)]]
        other = [[only((5, None, 5, 0)), only(N0), None, only((1, 3, 2, 1)), only((2, None, 1, 0))]]
        expected = [[only(single(5)), None, None, None, only((2, None, 1, 0))]]
        expected[0][0] = only(value_meet((0, 9, 1, 0), (5, None, 5, 0)))
        self.assertEqual(tables_meet(one, other), expected)
        self.assertEqual(tables_meet(other, one), expected)

    def test_gaps_and_pieces(self):
        one = ((EVERY, N0), ((0, 4), (None, 0)), (((3, EVERY),), ((1, N0),)))
        found = tables_meet([[STATE, one], [EMPTY]], [[one, None], [EMPTY]])
        self.assertEqual(found, [[((ODD, N0), ((0, 4), (None, 0)), (STATE[2][0], ((1, N0),))), None], [EMPTY]])

    def test_meets_of_confirmed_tables_are_confirmed(self):
        different = 0
        for chance, thing, begin, settings in draws(6, 30):
            points = all_points(thing)
            others = Settings(gaps=settings.gaps, delay=chance.choice([0, 5]), narrow=0, marks=(1, 5, 9), order=points[::-1])
            wide = [value_join(value, chance.choice(BEGINS)) for value in begin]
            one, other = analyse(thing, begin, settings), analyse(thing, wide, others)
            found = tables_meet(one, other)
            different += found not in (one, other)
            self.assertIs(confirms(thing, begin, found), True, (thing, begin, settings))
            self.assertIs(is_table(thing, found), True)
            self.assertTrue(tables_within(found, one) and tables_within(found, other))
        self.assertGreater(different, 3)

    def test_new_lists_and_unchanged_arguments(self):
        one, other = as_lists(TABLE), copy.deepcopy(TABLE)
        found = tables_meet(other=one, one=other)
        self.assertEqual(found, TABLE)
        self.assertEqual((one, other), (as_lists(TABLE), TABLE))
        self.assertTrue(type(found) is list and all(type(row) is list for row in found))
        self.assertFalse(any(has_list(state) for row in found for state in row))
        found[0].clear()
        found.clear()
        self.assertEqual(other, TABLE)
        self.assertEqual(tables_meet(other, one), TABLE)


class Within(unittest.TestCase):
    def test_each_state(self):
        table = analyse(LOOP, ())
        self.assertIs(tables_within(table, table), True)
        for k in range(5):
            more = changed(table, [0, k], only(EVERY))
            self.assertIs(tables_within(table, more), True)
            self.assertIs(tables_within(more, table), False)
            self.assertIs(tables_within(changed(table, [0, k], None), table), True)
            self.assertIs(tables_within(table, changed(table, [0, k], None)), False)
        self.assertIs(tables_within([[None] * 5], [[None] * 5]), True)

    def test_every_function(self):
        table = analyse(TWO, ())
        self.assertIs(tables_within(table, [table[0], [None]]), False)
        self.assertIs(tables_within([table[0], [None]], table), True)

    def test_gaps_and_pieces(self):
        for way, more in [([0, 0, 1, 1, 0], 7), ([0, 0, 2, 0], ((3, EVERY),)), ([0, 1, 1, 0, 1], None)]:
            other = changed(TABLE, way, more)
            less = way == [0, 0, 1, 1, 0]
            self.assertIs(tables_within(TABLE, other), not less)
            self.assertIs(tables_within(other, TABLE), less)

    def test_arguments(self):
        one, other = as_lists(TABLE), tuple(map(tuple, TABLE))
        self.assertIs(tables_within(other=one, one=other), True)
        self.assertEqual((one, other), (as_lists(TABLE), tuple(map(tuple, TABLE))))


class Outside(unittest.TestCase):
    def test_within(self):
        for chance, thing, begin, settings in draws(7, 40):
            table = analyse(thing, begin, settings)
            for _, trace in runs_of(chance, thing, begin, 3):
                self.assertIsNone(first_outside(thing, table, trace))
        self.assertIsNone(first_outside(LOOP, [[None] * 5], []))

    def test_outside(self):
        table = analyse(LOOP, ())
        trace = run(LOOP, [], [], 99)[1]
        self.assertIsNone(first_outside(LOOP, table, trace))
        for k, pair in enumerate(trace):
            less = changed(table, [0, pair[0][1]], None)
            first = min(j for j, other in enumerate(trace) if other[0] == pair[0])
            self.assertEqual(first_outside(LOOP, less, trace), first)
            other = trace[:k] + [(pair[0], ((-1,), ()))] + trace[k + 1:]
            self.assertEqual(first_outside(LOOP, table, other), k)
            self.assertEqual(first_outside(LOOP, table, other + other), k)

    def test_by_the_words(self):
        found = 0
        for chance, thing, begin, settings in draws(8, 30):
            table = analyse(thing, [N0] * len(begin), settings)
            for _, trace in runs_of(chance, thing, begin, 3):
                outside = [k for k, ((f, k2), frame) in enumerate(trace) if not covers(thing[f], table[f][k2], frame)]
                found += len(outside) > 0
                self.assertEqual(first_outside(thing, table, trace), outside[0] if outside else None)
        self.assertGreater(found, 30)

    def test_gaps_and_items(self):
        frame = ((3, 0), ((0, 1, 1), (5,)))
        self.assertIsNone(first_outside(SHAPE, TABLE, [((0, 0), frame), ((1, 0), ((), ()))]))
        for other in [((2, 0), frame[1]), ((5, 0), frame[1]), ((3, 1), frame[1]), ((3, 0), ((1, 1, 1), (5,))),
                      ((3, 0), ((0, 1, 2), (5,)))]:
            self.assertEqual(first_outside(SHAPE, TABLE, [((0, 1), frame), ((0, 1), other)]), 1)

    def test_arguments(self):
        table, trace = as_lists(analyse(LOOP, ())), as_lists(run(LOOP, [], [], 99)[1])
        kept = copy.deepcopy((table, trace))
        self.assertIsNone(first_outside(trace=trace, table=table, program=as_lists(LOOP)))
        self.assertEqual(first_outside(as_lists(LOOP), [[None] * 5], trace), 0)
        self.assertEqual((table, trace), kept)


class Result(unittest.TestCase):
    def test_with_a_state_at_the_exit(self):
        self.assertEqual(result_of(TINY, analyse(TINY, ((1, 4, 1, 0),))), (2, 8, 1, 0))
        self.assertEqual(result_of(TWO, analyse(TWO, ())), (1, GREATEST, 1, 0))

    def test_without(self):
        self.assertIsNone(result_of(TINY, analyse(TINY, (N0,))))
        self.assertIsNone(result_of(LOOP, [[only(EVERY)] * 3 + [None, only(EVERY)]]))

    def test_a_result_of_any_size(self):
        thing = program(parameters=("x",), result=("mul", X, X))
        self.assertEqual(result_of(thing, analyse(thing, (single(GREATEST),))), single(GREATEST ** 2))

    def test_the_exit_of_main_alone(self):
        table = [[None, None, None], [only(single(3))]]
        self.assertIsNone(result_of(TWO, table))
        table = [[None, None, only(single(3))], [None]]
        self.assertEqual(result_of(TWO, table), single(3))

    def test_a_state_that_is_none_when_it_is_tightened(self):
        thing = program(parameters=("x", "y"), result=("sub", X, Y))
        self.assertIsNone(result_of(thing, [[((N0, single(3)), ((0, None), (2, 0)), ())]]))
        self.assertEqual(result_of(thing, [[((EVERY, EVERY), ((0, 5), (-2, 0)), ())]]), (2, 5, 1, 0))

    def test_results_of_runs(self):
        done = 0
        for chance, thing, begin, settings in draws(9, 60):
            value = result_of(thing, analyse(thing, begin, settings))
            for end, _ in runs_of(chance, thing, begin, 3):
                if end[0] == "done":
                    done += 1
                    self.assertTrue(contains(value, end[1]))
        self.assertGreater(done, 60)

    def test_it_is_the_value_of_the_result(self):
        for _, thing, begin, settings in draws(10, 30):
            table = analyse(thing, begin, settings)
            main = thing[0]
            expected = expression_value(main, table[0][exit_of(main)], main[4])
            self.assertEqual(result_of(table=as_lists(table), program=as_lists(thing)), expected)


if __name__ == "__main__":
    unittest.main()
