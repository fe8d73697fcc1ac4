"""engine.py ([15]), with guarantee (a) of [1]."""

import random
import unittest

from shadowruns.engine import Settings, analyse, incoming
from shadowruns.graph import edges, exit_of, heads, parts, points_many
from shadowruns.limits import GREATEST
from shadowruns.running import run
from shadowruns.states import (
    called, covers, entry_state, returned, state_join, state_meet, state_widen, state_within, transferred,
)
from shadowruns.values import EVERY, single, value_meet
from tests.samples import LOOP, MORE, ONE, TINY, TWO, X, Y, ZERO, as_lists, body, has_list, likely, made, program
from tests.tables import ALL, BEGINS, N0, NESTED, SPECIAL, all_points, draws, num, only, runs_of


def incoming_by_the_words(thing, begin, table, point, has_gaps):
    """What reaches a point, by the words of [15], one after the other."""
    states = [state for row in table for state in row if state is not None]
    gaps = states[0][1] is not None if states else has_gaps
    f, k = point
    found = None
    names = [function[0] for function in thing]
    for start, action, stop in edges(thing[f]):
        if stop == k and action[0] != "call":
            found = state_join(found, transferred(thing[f], table[f][start], action))
        elif stop == k:
            g = names.index(action[2])
            last = table[g][exit_of(thing[g])]
            found = state_join(found, returned(thing, f, table[f][start], action, last))
    if k == 0:
        for g, function in enumerate(thing):
            for start, action, _ in edges(function):
                if action[0] == "call" and action[2] == names[f]:
                    values = called(thing, g, table[g][start], action)
                    if values is not None:
                        found = state_join(found, entry_state(thing[f], values, gaps))
    if point == (0, 0):
        values = [value_meet(value, ALL) for value in begin]
        if None not in values:
            found = state_join(found, entry_state(thing[0], values, gaps))
    return found


def analysed_by_the_words(thing, begin, settings):
    """A table by the words of [15]."""
    table = [[None] * points_many(function) for function in thing]
    wide = heads(thing)

    def new_at(f, k):
        return incoming_by_the_words(thing, begin, table, (f, k), settings.gaps)

    for part in parts(thing):
        points = [point for point in settings.order if point in part]
        points += sorted(point for point in part if point not in points)
        changes = dict.fromkeys(part, 0)
        changed = True
        while changed:
            changed = False
            for f, k in points:
                new = new_at(f, k)
                if state_within(new, table[f][k]):
                    continue
                changed = True
                changes[f, k] += 1
                both = state_join(table[f][k], new)
                if (f, k) in wide and changes[f, k] >= settings.delay + 1:
                    both = state_widen(table[f][k], both, settings.marks)
                table[f][k] = both
        for _ in range(settings.narrow):
            for f, k in points:
                table[f][k] = state_meet(table[f][k], new_at(f, k))
    return table


class Examples(unittest.TestCase):
    def test_of_the_document(self):
        self.assertEqual(analyse(LOOP, ())[0][1], only((0, 10, 2, 0)))
        self.assertEqual(analyse(LOOP, ())[0][3], only(single(10)))
        self.assertEqual(analyse(LOOP, (), Settings(narrow=0))[0][1], only((0, None, 2, 0)))
        self.assertEqual(incoming(LOOP, (), analyse(LOOP, ()), (0, 4)), only((2, 10, 2, 0)))
        self.assertIsNone(incoming(LOOP, (), [[None] * 5], (0, 1)))


class SettingsTest(unittest.TestCase):
    def test_what_they_are_without_arguments(self):
        plain = Settings()
        self.assertEqual((plain.gaps, plain.delay, plain.marks, plain.narrow, plain.order), (False, 2, (), 2, ()))

    def test_what_they_keep(self):
        marks, order = [-3, 0, 8], [[0, 1], (1, 0)]
        kept = Settings(gaps=True, delay=0, marks=marks, narrow=5, order=order)
        marks.append(9)
        order[0][1] = 7
        order.append((3, 3))
        self.assertEqual((kept.gaps, kept.delay, kept.marks, kept.narrow, kept.order),
                         (True, 0, (-3, 0, 8), 5, ((0, 1), (1, 0))))
        self.assertFalse(has_list(kept.marks) or has_list(kept.order) or isinstance(kept.order, list))

    def test_arguments_are_given_by_name_only(self):
        with self.assertRaises(TypeError):
            Settings(True)

    def test_equality(self):
        rows = dict(gaps=True, delay=1, marks=(1, 2), narrow=3, order=((0, 1),))
        self.assertEqual(Settings(**rows), Settings(gaps=True, delay=1, marks=[1, 2], narrow=3, order=[[0, 1]]))
        self.assertTrue(Settings() == Settings())
        self.assertFalse(Settings() != Settings())
        for name, other in dict(gaps=False, delay=2, marks=(1, 3), narrow=2, order=((0, 2),)).items():
            self.assertFalse(Settings(**rows) == Settings(**{**rows, name: other}), name)
            self.assertTrue(Settings(**rows) != Settings(**{**rows, name: other}), name)
        self.assertFalse(Settings(order=((0, 1), (0, 2))) == Settings(order=((0, 2), (0, 1))))

    def test_equal_to_nothing_else(self):
        class Alike:
            gaps, delay, marks, narrow, order = False, 2, (), 2, ()

        for other in (Alike(), None, (), (False, 2, (), 2, ()), {}, 0, "", Settings):
            self.assertFalse(Settings() == other)
            self.assertTrue(Settings() != other)

    def test_each_object_has_its_own(self):
        one, other = Settings(marks=(1,)), Settings(marks=(2,))
        self.assertEqual((one.marks, other.marks), ((1,), (2,)))


class Incoming(unittest.TestCase):
    def test_the_entry_of_main(self):
        none = [[None] * 3]
        for value, expected in [
            ((1, 4, 1, 0), (1, 4, 1, 0)), (EVERY, ALL), ((0, None, 7, 0), (0, GREATEST - GREATEST % 7, 7, 0)),
            (single(GREATEST), single(GREATEST)), (single(-GREATEST), single(-GREATEST)),
        ]:
            self.assertEqual(incoming(TINY, (value,), none, (0, 0)), only(expected, N0))
        for value in (single(GREATEST + 1), (None, -GREATEST - 1, 1, 0), (GREATEST + 1, None, 1, 0)):
            self.assertIsNone(incoming(TINY, (value,), none, (0, 0)))
        two = (body(parameters=("x", "y")),)
        self.assertIsNone(incoming(two, (EVERY, single(GREATEST + 1)), [[None]], (0, 0)))
        self.assertEqual(incoming(two, (EVERY, N0), [[None]], (0, 0)), only(ALL, N0))

    def test_gaps(self):
        none = [[None] * 3]
        begin = ((1, 4, 1, 0),)
        self.assertEqual(incoming(TINY, begin, none, (0, 0), True), (((1, 4, 1, 0), N0), ((0, 4), (-1, 0)), ()))
        self.assertEqual(incoming(TINY, begin, none, (0, 0), False), only((1, 4, 1, 0), N0))
        with_gaps = [[None, None, ((EVERY, EVERY), ((0, None), (None, 0)), ())]]
        without = [[None, None, only(EVERY, EVERY)]]
        for has_gaps in (False, True):
            self.assertIsNotNone(incoming(TINY, begin, with_gaps, (0, 0), has_gaps)[1])
            self.assertIsNone(incoming(TINY, begin, without, (0, 0), has_gaps)[1])
        self.assertEqual(incoming((body(),), (), [[((), (), ())]], (0, 0)), ((), (), ()))
        self.assertEqual(incoming((body(),), (), [[((), None, ())]], (0, 0), True), ((), None, ()))
        self.assertEqual(incoming((body(),), (), [[None]], (0, 0), True), ((), (), ()))

    def test_an_entry(self):
        begins = [[only((0, 3, 1, 0)), only((7, 9, 1, 0)), None], [None]]
        self.assertEqual(incoming(TWO, (), begins, (1, 0)), only((0, 9, 1, 0)))
        self.assertIsNone(incoming(TWO, (), [[None] * 3, [only(N0)]], (1, 0)))
        self.assertEqual(incoming(TWO, (), [[None, only(single(7)), only(N0)], [None]], (1, 0)), only(single(7)))

    def test_the_entry_of_main_with_calls_of_it(self):
        thing = (body(("call", "y", "main", (("add", X, ONE),)), parameters=("x",)),)
        table = [[only((0, 5, 1, 0), (2, 3, 1, 0)), None]]
        self.assertEqual(incoming(thing, (single(10),), table, (0, 0)), only((1, 10, 1, 0), N0))
        self.assertEqual(incoming(thing, (single(GREATEST + 1),), table, (0, 0)), only((1, 6, 1, 0), N0))
        self.assertEqual(incoming(thing, (single(10),), [[None, None]], (0, 0)), only(single(10), N0))

    def test_a_head(self):
        table = [[only(N0), None, None, None, only((2, 6, 2, 0))]]
        self.assertEqual(incoming(LOOP, (), table, (0, 1)), only((0, 6, 2, 0)))
        self.assertEqual(incoming(LOOP, (), [[only(N0)] + [None] * 4], (0, 1)), only(N0))

    def test_behind_a_call(self):
        table = [[only((0, 3, 1, 0)), None, None], [only((5, 6, 1, 0))]]
        self.assertEqual(incoming(TWO, (), table, (0, 1)), only((6, 7, 1, 0)))
        self.assertIsNone(incoming(TWO, (), table, (0, 2)))
        self.assertIsNone(incoming(TWO, (), [[only(N0), None, None], [None]], (0, 1)))
        self.assertIsNone(incoming(TWO, (), [[None, None, None], [only(N0)]], (0, 1)))

    def test_behind_a_call_the_caller_keeps_its_own(self):
        called_one = body(("set", "y", num(9)), name="g", arrays=(("a", 2),), result=Y)
        thing = program(("call", "x", "g", ()), arrays=(("a", 3),), result=("add", X, Y), others=(called_one,))
        table = [[((N0, single(4)), None, (((3, single(5)),),)), None], [None, ((single(9),), None, (((2, N0),),))]]
        self.assertEqual(incoming(thing, (), table, (0, 1)), ((single(9), single(4)), None, (((3, single(5)),),)))

    def test_by_the_words(self):
        chance = random.Random(1)
        for thing in SPECIAL + likely(40) + made(20):
            begin = [chance.choice(BEGINS) for _ in thing[0][1]]
            has_gaps = chance.random() < 0.5
            table = analyse(thing, begin, Settings(gaps=has_gaps, narrow=0, delay=0))
            rough = [[state if chance.random() < 0.7 else None for state in row] for row in table]
            for point in all_points(thing):
                expected = incoming_by_the_words(thing, begin, rough, point, True)
                self.assertEqual(incoming(thing, begin, rough, point, True), expected)


class Tables(unittest.TestCase):
    def test_tiny(self):
        self.assertEqual(analyse(TINY, ((1, 4, 1, 0),)),
            [[only((1, 4, 1, 0), N0)] * 2 + [only((1, 4, 1, 0), (2, 8, 1, 0))]])
        self.assertEqual(analyse(TINY, (N0,)), [[only(N0, N0), None, None]])
        self.assertEqual(analyse(TINY, (single(GREATEST + 1),)), [[None] * 3])

    def test_a_function_that_is_never_called(self):
        self.assertEqual(analyse((body(), MORE), ()), [[((), None, ())], [None]])

    def test_values_are_not_lost_beyond_greatest(self):
        thing = program(("while", ("less", ZERO, X), (("set", "x", ("add", X, X)),)), parameters=("x",), result=X)
        table = analyse(thing, ((1, 3, 1, 0),))
        # a head of a loop that ends in no run
        self.assertEqual(table[0][1], only((1, GREATEST, 1, 0)))
        self.assertIsNone(table[0][3])

    def test_calls(self):
        self.assertEqual(analyse(TWO, ()), [
            [only(N0), only((1, GREATEST, 1, 0)), only((1, GREATEST, 1, 0))], [only((0, GREATEST, 1, 0))],
        ])

    def test_a_call_of_itself(self):
        recursion = body(("if", ("less", X, num(5)), (("call", "y", "f", (("add", X, ONE),)),), ()),
                         name="f", parameters=("x",), result=X)
        thing = program(("call", "z", "f", (ZERO,)), result=("var", "z"), others=(recursion,))
        table = analyse(thing, ())
        self.assertEqual(table[1][0][0][0], (0, 5, 1, 0))
        self.assertEqual(table[0][1], only((0, 5, 1, 0)))

    def test_a_call_that_never_comes_back(self):
        thing = (body(("call", "x", "main", ())),)
        self.assertEqual(analyse(thing, ()), [[only(N0), None]])

    def test_calls_of_each_other_and_of_main(self):
        for thing in SPECIAL[4:8]:
            main = analyse(thing, ((0, 6, 1, 0),))[0]
            for n in range(7):
                end, trace = run(thing, [n], [], 99)
                self.assertEqual(end[0], "done")
                self.assertTrue(covers(thing[0], main[exit_of(thing[0])], trace[-1][1]))
        table = analyse(SPECIAL[4], ((0, 6, 1, 0),))
        self.assertEqual(table[0][0], only((0, 6, 1, 0), N0))
        # a function that is never called, though it calls itself
        self.assertEqual(analyse(SPECIAL[7], ((0, 6, 1, 0),))[2], [None] * points_many(SPECIAL[7][2]))

    def test_loops_within_loops(self):
        table = analyse(NESTED, (), Settings(marks=(0, 1, 2, 3, 4), gaps=True))
        # 0 skip 1; 1 when 2, unless 3
        self.assertEqual(table[0][2][0][0], (0, 3, 1, 0))
        self.assertEqual(table[0][3][0][0], single(4))
        self.assertEqual(run(NESTED, [], [], 999)[0], ("done", 1))

    def test_arrays(self):
        fill = ("while", ("less", X, num(3)), (("put", "a", X, num(7)), ("set", "x", ("add", X, ONE))))
        table = analyse(program(fill, arrays=(("a", 5),)), (), Settings(delay=9))
        self.assertEqual(table[0][1], (((0, 3, 1, 0),), None, (((3, (0, 7, 7, 0)), (5, N0)),)))

    def test_gaps_are_kept_where_spans_are_not(self):
        thing = program(("set", "y", ("sub", X, ONE)), ("check", ("less", Y, X)), parameters=("x",))
        # 0 set 1; 1 when 2, unless 3
        self.assertIsNone(analyse(thing, (EVERY,), Settings(gaps=True))[0][3])
        self.assertIsNotNone(analyse(thing, (EVERY,))[0][3])
        for row in analyse(thing, (EVERY,), Settings(gaps=True)):
            self.assertTrue(all(state is None or state[1] is not None for state in row))


class EachSetting(unittest.TestCase):
    UP = (body(("while", ("less", X, num(100)), (("set", "x", ("add", X, ONE)),)), result=X),)

    def head(self, **more):
        return analyse(self.UP, (), Settings(**more))[0][1][0][0]

    def test_delay(self):
        # the change from None is number 1, and widening it changes nothing
        self.assertEqual(self.head(narrow=0, delay=0), (0, None, 1, 0))
        five = (body(("while", ("less", X, num(5)), (("set", "x", ("add", X, ONE)),))),)
        # numbers 1 to 6 of the changes give up to 0 .. 5
        self.assertEqual([analyse(five, (), Settings(narrow=0, delay=n))[0][1][0][0] for n in (0, 4, 5, 6, 40)],
                         [(0, None, 1, 0), (0, None, 1, 0), (0, None, 1, 0), (0, 5, 1, 0), (0, 5, 1, 0)])

    def test_marks(self):
        self.assertEqual(self.head(narrow=0, marks=(50,)), (0, None, 1, 0))
        self.assertEqual(self.head(narrow=0, marks=(99,)), (0, None, 1, 0))
        self.assertEqual(self.head(narrow=0, marks=(50, 100, 150)), (0, 100, 1, 0))
        self.assertEqual(self.head(narrow=0, marks=(50, 120, 150)), (0, 120, 1, 0))

    def test_narrow(self):
        self.assertEqual([self.head(narrow=n) for n in (0, 1, 2, 6)],
                         [(0, None, 1, 0)] + [(0, 100, 1, 0)] * 3)
        # against the order of the points, each round brings what the head has learnt one point further
        copy = ("set", "y", X)
        thing = program(("while", ("less", X, num(9)), (copy, ("set", "x", ("add", X, ONE)))))
        order = [(0, 5), (0, 4), (0, 2), (0, 1)]
        tables = [analyse(thing, (), Settings(narrow=n, order=order)) for n in range(5)]
        self.assertEqual([table[0][1][0][1] for table in tables], [(0, None, 1, 0)] + [(0, 8, 1, 0)] * 4)
        self.assertEqual([table[0][2][0][1] for table in tables], [(0, None, 1, 0)] * 2 + [(0, 8, 1, 0)] * 3)
        self.assertEqual([tables[k] == tables[k + 1] for k in range(4)], [False, False, True, True])

    def test_narrowing_comes_before_the_next_part(self):
        thing = program(("while", ("less", X, num(10)), (("set", "x", ("add", X, ONE)),)),
                        ("while", ("less", Y, X), (("set", "y", ("add", Y, ONE)),)), result=Y)
        table = analyse(thing, (), Settings(narrow=1))
        # 0 skip 1; 1 when 2, unless 3; 2 set 4; 3 skip 5; 5 when 6
        self.assertEqual(table[0][5], only(single(10), (0, 10, 1, 0)))

    def test_order(self):
        chance = random.Random(5)
        changed = 0
        for thing in likely(60):
            points = all_points(thing)
            order = points[::-1]
            begin = [chance.choice(BEGINS) for _ in thing[0][1]]
            for settings in (Settings(order=order), Settings(order=order, delay=0, narrow=1, marks=(3,))):
                plain = Settings(delay=settings.delay, narrow=settings.narrow, marks=settings.marks)
                changed += analyse(thing, begin, settings) != analyse(thing, begin, plain)
        self.assertGreater(changed, 0)

    def test_points_that_are_not_there(self):
        order = [(5, 0), (0, 99), (0, 2), (-1, 0), (0, -1), (0, 1)]
        self.assertEqual(analyse(self.UP, (), Settings(order=order)),
            analyse(self.UP, (), Settings(order=[(0, 2), (0, 1)])))

    def test_no_settings(self):
        for thing in (LOOP, TWO, self.UP):
            self.assertEqual(analyse(thing, ()), analyse(thing, (), None))
            self.assertEqual(analyse(thing, ()), analyse(thing, (), Settings()))
            self.assertEqual(analyse(thing, ()), analyse(thing, (), settings=Settings(gaps=False, delay=2, narrow=2)))


class AllPrograms(unittest.TestCase):
    def test_tables_are_as_the_document_says(self):
        for _, thing, begin, settings in draws(1, 50):
            self.assertEqual(analyse(thing, begin, settings), analysed_by_the_words(thing, begin, settings))

    def test_every_frame_of_every_run_is_described(self):
        seen = 0
        for chance, thing, begin, settings in draws(2, 200):
            table = analyse(thing, begin, settings)
            for _, trace in runs_of(chance, thing, begin, 5):
                seen += len(trace)
                for (f, k), frame in trace:
                    self.assertTrue(covers(thing[f], table[f][k], frame), (thing, begin, (f, k), frame))
        self.assertGreater(seen, 20000)

    def test_tables_are_confirmed_by_what_comes_in(self):
        for _, thing, begin, settings in draws(3, 60):
            table = analyse(thing, begin, settings)
            for f, k in all_points(thing):
                new = incoming(thing, begin, table, (f, k), settings.gaps)
                self.assertTrue(state_within(new, table[f][k]), (thing, begin, (f, k)))

    def test_all_states_have_gaps_or_none_has(self):
        for _, thing, begin, settings in draws(4, 60):
            for row in analyse(thing, begin, settings):
                for state in row:
                    self.assertTrue(state is None or (state[1] is not None) == settings.gaps)

    def test_lists_names_and_unchanged_arguments(self):
        for _, thing, begin, settings in draws(5, 40):
            lists, values = as_lists(thing), as_lists(begin)
            table = analyse(settings=settings, begin=values, program=lists)
            self.assertEqual(table, analyse(thing, begin, settings))
            self.assertEqual((lists, values), (as_lists(thing), as_lists(begin)))
            rough = as_lists(table)
            for f, k in all_points(thing)[:20]:
                found = incoming(has_gaps=settings.gaps, point=[f, k], table=rough, begin=values, program=lists)
                self.assertEqual(found, incoming(thing, begin, table, (f, k), settings.gaps))
                self.assertFalse(has_list(found) or isinstance(found, list))
            self.assertEqual((rough, lists, values), (as_lists(table), as_lists(thing), as_lists(begin)))

    def test_kinds_of_values(self):
        for _, thing, begin, settings in draws(6, 40):
            table = analyse(as_lists(thing), as_lists(begin), settings)
            self.assertIs(type(table), list)
            self.assertEqual([len(row) for row in table], [points_many(function) for function in thing])
            for row in table:
                self.assertIs(type(row), list)
                self.assertFalse(has_list(tuple(row)))

    def test_changed_results_change_nothing(self):
        settings = Settings(gaps=True)
        first = analyse(LOOP, (), settings)
        kept = [list(row) for row in first]
        first[0].clear()
        first.append([])
        self.assertEqual(analyse(LOOP, (), settings), kept)


if __name__ == "__main__":
    unittest.main()
