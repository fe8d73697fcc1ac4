"""session.py ([21]), with guarantee (e) of [1]."""

import copy
import functools
import random
import unittest

from shadowruns.checker import result_of
from shadowruns.engine import Settings, analyse
from shadowruns.errors import NoFunction, NoProgram
from shadowruns.graph import fed, parts, points_many
from shadowruns.programs import is_program
from shadowruns.session import Session
from shadowruns.values import EVERY, single
from shadowruns.verdicts import verdicts
from tests.samples import (
    LOOP, MORE, ONE, TINY, TWO, X, Y, ZERO, LikelyMaker, as_lists, body, has_list, likely, program,
)
from tests.tables import BEGINS, N0, SPECIAL, all_points, drawn_settings, loop_to, num, turn

FIVE = ("f", ("n",), (), (), num(5))
F = ("f", ("n",), (), (), ("var", "n"))


@functools.cache
def feeds(thing):
    return {point: fed(thing, point) for point in all_points(thing)}


def computed_by_the_words(old, old_begin, old_table, new, begin, table, g):
    """The points of all parts that an edit makes a session compute, clause by clause."""
    before, after = feeds(old), feeds(new)
    old_parts = [set(part) for part in parts(old)]
    found = []
    for part in parts(new):
        members = set(part)
        feeding = {point for point in after if members & set(after[point])}
        if any(f == g for f, _ in part):
            found.extend(part)
        elif members not in old_parts:
            found.extend(part)
        elif feeding != {point for point in before if members & set(before[point])}:
            found.extend(part)
        elif any(f == g or table[f][k] != old_table[f][k] for f, k in feeding - members):
            found.extend(part)
        elif (0, 0) in members and begin != old_begin:
            found.extend(part)
    return sorted(found)


def changed_function(chance, function, thing):
    """The function with a statement less or one more, or with another result."""
    maker = LikelyMaker(chance.random())
    needed = {other[0]: len(other[1]) for other in thing[1:]}
    kind = chance.random()
    block = function[3]
    if kind < 0.2:
        return function
    if kind < 0.5 and block:
        at = chance.randrange(len(block))
        return function[:3] + (block[:at] + block[at + 1:],) + function[4:]
    if kind < 0.7:
        return function[:4] + (maker.expression(1),)
    at = chance.randint(0, len(block))
    more = maker.statement(1, needed) if needed else ("set", "x", maker.expression(1))
    return function[:3] + (block[:at] + (more,) + block[at:],) + function[4:]


class Examples(unittest.TestCase):
    def test_of_the_document(self):
        talk = Session(TWO, ())
        self.assertIsNone(talk.replace(FIVE))
        self.assertEqual(talk.computed(), [(0, 1), (0, 2), (1, 0)])
        self.assertEqual(result_of(talk.program(), talk.table()), (5, 5, 0, 5))
        self.assertEqual(repr(talk), "Session(2 functions, 4 points)")


class AtFirst(unittest.TestCase):
    def test_what_it_has(self):
        for thing in SPECIAL:
            begin = (EVERY,) * len(thing[0][1])
            for settings in (None, Settings(), Settings(gaps=True, delay=0, narrow=1, marks=(3,), order=((0, 1),))):
                talk = Session(thing, begin, settings)
                self.assertEqual(talk.program(), thing)
                self.assertEqual(talk.begin(), begin)
                self.assertEqual(talk.table(), analyse(thing, begin, settings))
                self.assertEqual(talk.verdicts(), verdicts(thing, analyse(thing, begin, settings)))
                self.assertEqual(talk.operations(), 0)
                self.assertEqual(talk.computed(), all_points(thing))

    def test_undo_of_nothing(self):
        talk = Session(TWO, ())
        self.assertIs(talk.undo(), False)
        self.assertEqual((talk.computed(), talk.operations()), (all_points(TWO), 0))


class Replace(unittest.TestCase):
    def test_a_function(self):
        talk = Session(TWO, ())
        self.assertIsNone(talk.replace(F))
        self.assertEqual(talk.program(), (TWO[0], F))
        self.assertEqual(talk.table(), analyse((TWO[0], F), ()))
        self.assertEqual(talk.operations(), 1)
        self.assertEqual(talk.computed(), [(0, 1), (0, 2), (1, 0)])

    def test_main(self):
        talk = Session(TWO, ())
        main = body(("call", "x", "f", (ONE,)), result=X)
        self.assertIsNone(talk.replace(main))
        self.assertEqual(talk.program(), (main, MORE))
        self.assertEqual(talk.table(), analyse((main, MORE), ()))
        self.assertEqual(talk.computed(), [(0, 0), (0, 1), (1, 0)])

    def test_an_equal_function(self):
        talk = Session(TWO, ())
        table = talk.table()
        self.assertIsNone(talk.replace(MORE))
        self.assertEqual((talk.program(), talk.table(), talk.operations()), (TWO, table, 1))
        self.assertEqual(talk.computed(), [(0, 1), (0, 2), (1, 0)])
        self.assertIsNone(talk.replace(TWO[0]))
        self.assertEqual((talk.program(), talk.table(), talk.operations()), (TWO, table, 2))
        # the part of f has a point of main, too
        self.assertEqual(talk.computed(), [(0, 0), (0, 1), (0, 2), (1, 0)])

    def test_no_such_function(self):
        talk = Session(TWO, ())
        for function in [("g", ("n",), (), (), ZERO), ("g",), ("x", 5), ("g", ("n", "n"), (), (), ZERO)]:
            for given in (function, list(function)):
                with self.assertRaises(NoFunction) as caught:
                    talk.replace(given)
                self.assertEqual(caught.exception.name, function[0])

    def test_no_program(self):
        talk = Session(TWO, ())
        for function in [
            ("f",), ("f", ("n",)), ("f", ("n",), (), ()), ("f", ("n",), (), (), ZERO, ZERO), ("f", None, (), (), ZERO),
            ("f", ("n", "n"), (), (), ZERO), ("f", (), (), (), ZERO), ("f", ("n", "m"), (), (), ZERO),
            ("f", ("n",), (("n", 3),), (), ZERO), ("f", ("n",), (), (), ("item", "a", ZERO)),
            ("f", ("n",), (), (("call", "x", "g", ()),), ZERO), ("f", ("n",), (), (("call", "x", "f", ()),), ZERO),
            ("f", ("n",), (("a", 0),), (), ZERO), ("f", ("n",), (), (), None), ("f", ("n",), (), (("set",),), ZERO),
            ("f", "n", (), (), ZERO), ("f", 5, 6, 7, 8), ("f", True), ("f", ("n",), (), (), ("num", True)),
            ("main", ("n",), (), (), ZERO), ("main",), ("main", ("n", "m"), (), (), ("var", "q")),
        ]:
            for given in (function, as_lists(function)):
                with self.assertRaises(NoProgram):
                    talk.replace(given)

    def test_main_with_another_number_of_parameters(self):
        talk = Session(TINY, (EVERY,))
        for parameters in ((), ("n", "m"), ("a", "b", "c")):
            with self.assertRaises(NoProgram):
                talk.replace(("main", parameters, (), (), ZERO))
        self.assertIsNone(talk.replace(("main", ("m",), (), (), ZERO)))
        self.assertEqual(talk.table(), [[(((-10 ** 30, 10 ** 30, 1, 0),), None, ())]])

    def test_other_parameters_and_calls_of_them(self):
        talk = Session((body(), MORE), ())
        more = ("f", ("n", "m"), (), (), ("var", "m"))
        self.assertIsNone(talk.replace(more))
        self.assertIsNone(talk.replace(body(("call", "x", "f", (ONE, ZERO)))))
        with self.assertRaises(NoProgram):
            talk.replace(MORE)
        self.assertEqual(talk.operations(), 2)
        self.assertEqual(talk.program(), (body(("call", "x", "f", (ONE, ZERO))), more))

    def test_nothing_is_changed_behind_an_error(self):
        talk = Session(TWO, ())
        talk.replace(FIVE)
        kept = (talk.program(), talk.begin(), talk.table(), talk.verdicts(), talk.operations(), talk.computed(), repr(talk))
        for call in (lambda: talk.replace(("g",)), lambda: talk.replace(("f",)), lambda: talk.begin_with((EVERY,)),
                     lambda: talk.replace(("main", ("n",), (), (), ZERO))):
            with self.assertRaises((NoFunction, NoProgram)):
                call()
            self.assertEqual(kept, (talk.program(), talk.begin(), talk.table(), talk.verdicts(), talk.operations(),
                                    talk.computed(), repr(talk)))
        self.assertIs(talk.undo(), True)
        self.assertIs(talk.undo(), False)


class BeginWith(unittest.TestCase):
    def test_other_values(self):
        talk = Session(TINY, (EVERY,))
        self.assertIsNone(talk.begin_with(((1, 4, 1, 0),)))
        self.assertEqual(talk.begin(), ((1, 4, 1, 0),))
        self.assertEqual(talk.table(), analyse(TINY, ((1, 4, 1, 0),)))
        self.assertEqual(talk.verdicts(), [((0, 0), "division", "never")])
        self.assertEqual((talk.operations(), talk.computed()), (1, all_points(TINY)))

    def test_equal_ones(self):
        talk = Session(TINY, (EVERY,))
        self.assertIsNone(talk.begin_with([list(EVERY)]))
        self.assertEqual((talk.operations(), talk.computed(), talk.begin()), (1, [], (EVERY,)))
        self.assertEqual(talk.table(), analyse(TINY, (EVERY,)))
        self.assertIs(talk.undo(), True)
        self.assertEqual((talk.operations(), talk.computed()), (0, []))
        self.assertIs(talk.undo(), False)
        self.assertEqual(talk.computed(), [])
        talk = Session(LOOP, ())
        self.assertIsNone(talk.begin_with(()))
        self.assertEqual((talk.operations(), talk.computed()), (1, []))

    def test_only_what_has_another_state(self):
        # y is 0 or 1, whatever x is; the loop behind it is not computed again
        thing = program(("set", "x", ("mod", X, num(2))), loop_to("y", num(4)), parameters=("x",))
        talk = Session(thing, ((0, 9, 1, 0),))
        self.assertIsNone(talk.begin_with(((0, 5, 1, 0),)))
        # 0 nonzero 1; 1 set 2; 2 skip 3
        self.assertEqual(talk.computed(), [(0, 0), (0, 1), (0, 2)])
        self.assertEqual(talk.table(), analyse(thing, ((0, 5, 1, 0),)))
        self.assertIsNone(talk.begin_with((N0,)))
        self.assertEqual(talk.computed(), all_points(thing))
        self.assertEqual(talk.table(), analyse(thing, (N0,)))

    def test_values_that_no_number_is_in(self):
        talk = Session(TINY, (EVERY,))
        self.assertIsNone(talk.begin_with((single(10 ** 31),)))
        self.assertEqual(talk.table(), [[None] * 3])
        self.assertIsNone(talk.begin_with((single(10 ** 32),)))
        self.assertEqual(talk.computed(), [(0, 0)])

    def test_another_number(self):
        for thing, begins in [(TINY, [(), (EVERY, EVERY)]), (LOOP, [(EVERY,), (N0, N0)])]:
            talk = Session(thing, (EVERY,) * len(thing[0][1]))
            for begin in begins:
                for given in (begin, as_lists(begin)):
                    with self.assertRaises(NoProgram):
                        talk.begin_with(given)
            self.assertEqual((talk.operations(), talk.computed()), (0, all_points(thing)))


class Undo(unittest.TestCase):
    def test_each_operation(self):
        talk = Session(TWO, ())
        first = talk.table()
        talk.replace(FIVE)
        second = talk.table()
        talk.begin_with(())
        talk.replace(F)
        self.assertEqual(talk.operations(), 3)
        self.assertIs(talk.undo(), True)
        self.assertEqual((talk.operations(), talk.program(), talk.table()), (2, (TWO[0], FIVE), second))
        self.assertEqual(talk.computed(), [(0, 1), (0, 2), (1, 0)])
        self.assertIs(talk.undo(), True)
        self.assertEqual((talk.operations(), talk.program(), talk.computed()), (1, (TWO[0], FIVE), []))
        self.assertIs(talk.undo(), True)
        self.assertEqual((talk.operations(), talk.program(), talk.table()), (0, TWO, first))
        self.assertEqual(talk.computed(), [(0, 1), (0, 2), (1, 0)])
        self.assertIs(talk.undo(), False)
        self.assertEqual(talk.computed(), [(0, 1), (0, 2), (1, 0)])
        self.assertEqual(talk, Session(TWO, ()))

    def test_of_a_begin(self):
        talk = Session(TINY, (EVERY,))
        talk.begin_with((N0,))
        talk.begin_with((single(5),))
        self.assertIs(talk.undo(), True)
        self.assertEqual((talk.begin(), talk.operations()), ((N0,), 1))
        self.assertEqual(talk.table(), analyse(TINY, (N0,)))
        self.assertIs(talk.undo(), True)
        self.assertEqual((talk.begin(), talk.operations()), ((EVERY,), 0))
        self.assertEqual(talk.table(), analyse(TINY, (EVERY,)))

    def test_goes_on_behind_it(self):
        talk = Session(TWO, ())
        talk.replace(FIVE)
        talk.undo()
        talk.replace(F)
        self.assertEqual((talk.program(), talk.operations()), ((TWO[0], F), 1))
        talk.undo()
        self.assertEqual((talk.program(), talk.operations()), (TWO, 0))

    def test_forty_operations(self):
        talk = Session(TWO, ())
        kept = []
        for n in range(40):
            kept.append((talk.program(), talk.table()))
            talk.replace(("f", ("n",), (), (), num(n)))
        self.assertEqual(talk.operations(), 40)
        while kept:
            self.assertIs(talk.undo(), True)
            self.assertEqual((talk.program(), talk.table()), kept.pop())
        self.assertIs(talk.undo(), False)


class Computed(unittest.TestCase):
    def test_functions_that_nothing_leads_to(self):
        lonely = body(loop_to("x", num(3)), name="h")
        talk = Session(TWO + (lonely,), ())
        talk.replace(FIVE)
        self.assertEqual(talk.computed(), [(0, 1), (0, 2), (1, 0)])
        talk.replace(body(name="h"))
        self.assertEqual(talk.computed(), [(2, 0)])
        talk.replace(body(loop_to("x", num(3)), name="h"))
        self.assertEqual(talk.computed(), [(2, k) for k in range(points_many(lonely))])

    def test_what_lies_ahead_is_not_computed(self):
        thing = program(loop_to("x", num(3)), ("call", "y", "f", (X,)), result=Y, others=(MORE,))
        talk = Session(thing, ())
        talk.replace(FIVE)
        # 0 skip 1; 1 when 2, unless 3; 2 set 4; 3 call 5
        self.assertEqual(talk.computed(), [(0, 5), (1, 0)])
        self.assertEqual(talk.table(), analyse((thing[0], FIVE), ()))

    def test_states_that_stay_the_same(self):
        # what g gives is different, but f gives the same, so main is not computed again
        middle = body(("call", "y", "g", ()), name="f", result=("mul", Y, ZERO))
        thing = program(("call", "x", "f", ()), others=(middle, body(name="g", result=ONE)))
        talk = Session(thing, ())
        talk.replace(body(name="g", result=num(7)))
        # the exit of f has another state, so the end of its call is computed
        self.assertEqual(talk.computed(), [(0, 1), (1, 1), (2, 0)])
        behind = program(("call", "x", "f", ()), ("set", "z", X), others=thing[1:])
        talk = Session(behind, ())
        talk.replace(body(name="g", result=num(7)))
        self.assertEqual(talk.computed(), [(0, 1), (1, 1), (2, 0)])
        self.assertEqual(talk.table(), analyse((behind[0], middle, body(name="g", result=num(7))), ()))

    def test_parts_that_are_put_together_and_taken_apart(self):
        one, other = body(("call", "y", "g", (X,)), name="f", parameters=("x",)), ("g", ("n",), (), (), ONE)
        thing = program(("call", "x", "f", (X,)), result=X, others=(one, other))
        talk = Session(thing, ())
        # now g calls f, so the entries of both are in one part, which f's was not
        talk.replace(("g", ("n",), (), (("call", "y", "f", (ONE,)),), ONE))
        self.assertEqual(parts(talk.program()), [((0, 0),), ((1, 0), (2, 0)), ((1, 1), (2, 1)), ((0, 1),)])
        self.assertEqual(talk.computed(), [(0, 1), (1, 0), (1, 1), (2, 0), (2, 1)])
        self.assertEqual(talk.table(), analyse(talk.program(), ()))
        talk.undo()
        self.assertEqual(talk.computed(), [(0, 1), (1, 0), (1, 1), (2, 0)])
        self.assertEqual(talk.table(), analyse(thing, ()))

    def test_a_part_that_is_fed_by_fewer_points(self):
        # h no longer calls f: what fed f from there was None, so no state is different
        caller = body(("assume", ("less", X, X)), ("call", "y", "f", (X,)), name="h", parameters=("x",))
        thing = program(("call", "x", "f", (X,)), ("call", "x", "h", (X,)), others=(MORE, caller))
        talk = Session(thing, ())
        less = body(("assume", ("less", X, X)), ("set", "y", X), name="h", parameters=("x",))
        talk.replace(less)
        self.assertIn((1, 0), talk.computed())
        self.assertEqual(talk.table(), analyse((thing[0], MORE, less), ()))

    def test_clause_by_clause(self):
        chance = random.Random(1)
        sizes = {"all": 0, "some": 0, "none": 0}
        for thing in SPECIAL + likely(36, 9000):
            begin = tuple(chance.choice(BEGINS) for _ in thing[0][1])
            settings = drawn_settings(chance, thing)
            talk = Session(thing, begin, settings)
            past = []
            for _ in range(8):
                old, old_begin, old_table = talk.program(), talk.begin(), talk.table()
                kind = chance.random()
                if kind < 0.25 and past:
                    g = past.pop()
                    self.assertIs(talk.undo(), True)
                elif kind < 0.5:
                    g = None
                    talk.begin_with(tuple(chance.choice(BEGINS + [old_begin[k]]) for k in range(len(begin))))
                    past.append(g)
                else:
                    g = chance.randrange(len(thing))
                    function = changed_function(chance, old[g], old)
                    if not is_program(old[:g] + (function,) + old[g + 1:]):
                        with self.assertRaises(NoProgram):
                            talk.replace(function)
                        continue
                    talk.replace(function)
                    past.append(g)
                self.assertEqual(talk.operations(), len(past))
                self.assertEqual(talk.table(), analyse(talk.program(), talk.begin(), settings))
                self.assertEqual(talk.verdicts(), verdicts(talk.program(), talk.table()))
                expected = computed_by_the_words(
                    old, old_begin, old_table, talk.program(), talk.begin(), talk.table(), g)
                self.assertEqual(talk.computed(), expected)
                many = len(all_points(talk.program()))
                sizes["all" if len(expected) == many else "some" if expected else "none"] += 1
        self.assertTrue(min(sizes.values()) > 10, sizes)


class Equality(unittest.TestCase):
    def test_programs_begins_and_settings(self):
        self.assertTrue(Session(TINY, (EVERY,)) == Session(as_lists(TINY), [list(EVERY)], Settings()))
        self.assertFalse(Session(TINY, (EVERY,)) != Session(TINY, (EVERY,)))
        self.assertFalse(Session(TINY, (EVERY,)) == Session(TINY, (N0,)))
        self.assertFalse(Session(TINY, (EVERY,)) == Session(TINY, (EVERY,), Settings(delay=3)))
        self.assertFalse(Session(TWO, ()) == Session(LOOP, ()))
        self.assertTrue(Session(TWO, ()) != Session(LOOP, ()))
        self.assertTrue(Session(TWO, (), Settings(gaps=True)) == Session(TWO, (), Settings(gaps=True)))

    def test_behind_operations(self):
        talk = Session(TWO, ())
        talk.replace(FIVE)
        self.assertTrue(talk == Session((TWO[0], FIVE), ()))
        self.assertFalse(talk == Session(TWO, ()))
        talk.undo()
        self.assertTrue(talk == Session(TWO, ()))

    def test_to_nothing_else(self):
        class Alike:
            functions, arguments, settings = TWO, (), Settings()

        for other in (None, 0, "", "Session(2 functions, 4 points)", TWO, (TWO, ()), Alike(), Settings(), {}, Session):
            self.assertFalse(Session(TWO, ()) == other)
            self.assertTrue(Session(TWO, ()) != other)

    def test_repr(self):
        self.assertEqual(repr(Session((body(),), ())), "Session(1 functions, 1 points)")
        self.assertEqual(repr(Session(LOOP, ())), "Session(1 functions, 5 points)")
        talk = Session(TWO, ())
        talk.replace(body(result=ZERO))
        self.assertEqual(repr(talk), "Session(2 functions, 2 points)")


class Copies(unittest.TestCase):
    def test_lists_that_are_returned(self):
        talk = Session(TINY, (EVERY,))
        kept = copy.deepcopy((talk.table(), talk.verdicts(), talk.computed()))
        table = talk.table()
        for row in table:
            row.clear()
        table.clear()
        talk.verdicts().clear()
        talk.computed().clear()
        self.assertEqual((talk.table(), talk.verdicts(), talk.computed()), kept)
        talk.begin_with((N0,))
        talk.table()[0][0] = None
        self.assertEqual(talk.table(), analyse(TINY, (N0,)))

    def test_arguments_that_are_changed_behind_the_call(self):
        lists, values, function = as_lists(TWO), [], as_lists(FIVE)
        talk = Session(lists, values)
        lists[0][3].clear()
        lists.clear()
        values.append(list(EVERY))
        self.assertEqual((talk.program(), talk.begin()), (TWO, ()))
        talk.replace(function)
        function[4] = None
        self.assertEqual(talk.program(), (TWO[0], FIVE))
        begin = [list(EVERY)]
        talk = Session(TINY, begin)
        begin[0][0] = 0
        self.assertEqual(talk.begin(), (EVERY,))
        other = [[1, 4, 1, 0]]
        talk.begin_with(other)
        other[0][1] = 99
        self.assertEqual(talk.begin(), ((1, 4, 1, 0),))

    def test_settings_that_are_changed_behind_the_call(self):
        settings = Settings(narrow=0)
        talk = Session(LOOP, (), settings)
        settings.narrow = 2
        settings.gaps = True
        talk.replace(LOOP[0])
        self.assertEqual(talk.table(), analyse(LOOP, (), Settings(narrow=0)))
        self.assertEqual(talk, Session(LOOP, (), Settings(narrow=0)))

    def test_names_and_lists(self):
        talk = Session(settings=None, begin=[], program=as_lists(TWO))
        talk.replace(function=as_lists(FIVE))
        self.assertFalse(has_list(talk.program()))
        talk.begin_with(begin=[])
        self.assertEqual((talk.program(), talk.begin(), talk.operations()), ((TWO[0], FIVE), (), 2))
        self.assertIs(type(talk.begin()), tuple)
        self.assertIs(type(talk.program()), tuple)
        self.assertTrue(all(type(point) is tuple for point in Session(as_lists(TWO), ()).computed()))

    def test_two_sessions(self):
        one, other = Session(TWO, ()), Session(TWO, ())
        one.replace(FIVE)
        self.assertEqual((other.program(), other.operations(), other.table()), (TWO, 0, analyse(TWO, ())))

    def test_functions_that_call_themselves(self):
        thing = program(("call", "z", "f", (num(3),)), result=("var", "z"), others=(turn("f", "f"),))
        talk = Session(thing, (), Settings(gaps=True))
        talk.replace(turn("f", "f"))
        self.assertEqual(talk.table(), analyse(thing, (), Settings(gaps=True)))


if __name__ == "__main__":
    unittest.main()
