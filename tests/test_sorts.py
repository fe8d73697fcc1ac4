"""classes.py: tables of sorts ([20]), with guarantee (f) of [1]."""

import copy
import random
import unittest

from shadowruns.classes import class_of, classes, sorts_confirmed, sorts_cover, sorts_told
from shadowruns.engine import analyse
from shadowruns.graph import points_many
from shadowruns.limits import GREATEST
from shadowruns.running import run
from shadowruns.values import EVERY
from tests.namings import (
    MIXED, NAMINGS, ONE_CLASS, PARITY, SIGNS, WINDOW, drawn_naming, drawn_sort, incoming_sorts, is_within,
    told_by_the_words,
)
from tests.samples import LOOP, MORE, ONE, TINY, TWO, X, Y, ZERO, as_lists, body, has_list, likely, made, program
from tests.tables import SPECIAL, all_points, loop_to, num

NEG, POS, NULL = ("neg",), ("pos",), ("zero",)
ALL = ("neg", "pos", "zero")


def draws(seed, many):
    """Quadruples of a chance, a program, sorts for its parameters, and a naming."""
    chance = random.Random(seed)
    for thing in SPECIAL + likely(many, seed * 1000) + made(many // 3):
        naming = chance.choice(NAMINGS) if chance.random() < 0.5 else drawn_naming(chance)
        yield chance, thing, tuple(drawn_sort(chance, naming) for _ in thing[0][1]), naming


def traces(chance, thing, begin, naming, many):
    """Traces of runs with numbers in these sorts."""
    for _ in range(many):
        numbers = [chance.choice([n for n in WINDOW if class_of(naming, n) in sort]) for sort in begin]
        yield run(thing, numbers, [chance.randint(-4, 7) for _ in range(20)], 300)[1]


def behind(*statements, begin=ALL, **more):
    """The sorts of the variables behind these statements, of main with a parameter x, and of its arrays."""
    thing = program(*statements, parameters=("x",), **more)
    found = sorts_told(thing, (begin,), SIGNS)[0]
    return found[-1]


def less_one(state, row, k, name):
    """The sort state without one class, or None if nothing is left."""
    rows = [list(part) for part in state]
    rows[row][k] = tuple(c for c in rows[row][k] if c != name)
    return tuple(tuple(part) for part in rows)


class Examples(unittest.TestCase):
    def test_of_the_document(self):
        self.assertEqual(sorts_told(TINY, (("pos",),), SIGNS)[0][2], ((("pos",), ("pos", "zero")), ()))


class EachDifference(unittest.TestCase):
    def test_numbers_and_variables(self):
        self.assertEqual(behind(("set", "y", num(-7))), ((ALL, NEG), ()))
        self.assertEqual(behind(("set", "y", X), begin=POS), ((POS, POS), ()))
        self.assertEqual(behind(("set", "y", ("add", X, ONE)), begin=("pos", "zero")), ((("pos", "zero"), POS), ()))
        self.assertEqual(behind(("set", "y", ("mul", X, ("sub", ZERO, ONE))), begin=POS), ((POS, NEG), ()))

    def test_what_is_0_at_the_beginning(self):
        thing = program(("set", "y", Y), parameters=("x",), arrays=(("a", 2), ("b", 1)))
        self.assertEqual(sorts_told(thing, (POS,), SIGNS)[0][0], ((POS, NULL), (NULL, NULL)))
        self.assertEqual(sorts_told(thing, (("a",),), MIXED)[0][0], ((("a",), NULL), (NULL, NULL)))
        self.assertEqual(sorts_told(thing, (("odd",),), PARITY)[0][0], ((("odd",), ("even",)), (("even",), ("even",))))

    def test_items(self):
        arrays = (("a", 3), ("b", 2))
        read = ("set", "y", ("item", "a", X))
        self.assertEqual(behind(read, arrays=arrays), ((ALL, NULL), (NULL, NULL)))
        self.assertEqual(behind(("put", "b", ZERO, num(4)), read, arrays=arrays), ((ALL, NULL), (NULL, ("pos", "zero"))))
        self.assertEqual(behind(("put", "a", ZERO, num(4)), read, arrays=arrays),
                         ((ALL, ("pos", "zero")), (("pos", "zero"), NULL)))
        # one item alone is set, but the array has one sort
        twice = (("put", "a", ZERO, ONE), ("put", "a", ZERO, num(-1)))
        self.assertEqual(behind(*twice, arrays=arrays), ((ALL,), (ALL, NULL)))

    def test_an_index_is_not_looked_at(self):
        # far out of the array, below 0, and without any integer
        never = ("div", X, ZERO)
        for index in (num(99), num(-1)):
            thing = program(("put", "a", index, ONE), ("set", "y", ("item", "a", index)), arrays=(("a", 3),))
            self.assertEqual(sorts_told(thing, (), SIGNS)[0][-1], ((("pos", "zero"),), (("pos", "zero"),)))
        thing = program(("put", "a", never, ONE), arrays=(("a", 3),))
        # 0 nonzero 1; 1 within 2; 2 put 3
        told = sorts_told(thing, (), SIGNS)
        self.assertEqual(told, [[((NULL,), (NULL,)), None, None, None]])
        told[0][1] = told[0][0]
        self.assertIs(sorts_confirmed(thing, (), SIGNS, told), False)
        told[0][2], told[0][3] = told[0][0], ((NULL,), (("pos", "zero"),))
        self.assertIs(sorts_confirmed(thing, (), SIGNS, told), True)
        thing = program(("set", "x", ("item", "a", never)), arrays=(("a", 3),))
        state = ((NULL,), (NULL,))
        self.assertIs(sorts_confirmed(thing, (), SIGNS, [[state, state, state, state]]), True)
        self.assertIs(sorts_confirmed(thing, (), SIGNS, [[state, state, state, None]]), False)

    def test_put_of_nothing(self):
        thing = program(("put", "a", ZERO, ("div", ONE, ZERO)), arrays=(("a", 3),))
        state = ((), (NULL,))
        # 0 nonzero 1; 1 within 2; 2 put 3
        self.assertIs(sorts_confirmed(thing, (), SIGNS, [[state, state, state, None]]), True)

    def test_nonzero(self):
        divide = ("set", "y", ("div", ONE, X))
        self.assertEqual(behind(divide), ((("neg", "pos"), ("neg", "pos", "zero")), ()))
        self.assertIsNone(behind(divide, begin=NULL))
        # only a variable loses the class of 0
        self.assertEqual(behind(("set", "y", ("div", ONE, ("add", X, ZERO)))), ((ALL, ("neg", "pos", "zero")), ()))
        self.assertIsNone(behind(("set", "y", ("div", ONE, ("add", X, ZERO))), begin=NULL))
        # a class with other integers stays
        self.assertEqual(sorts_told(TINY, (("even",),), PARITY)[0][1], ((("even",), ("even",)), ()))

    def test_atoms(self):
        def assumed(condition, begin, naming=SIGNS, other=num(5)):
            thing = program(("set", "y", other), ("assume", condition), parameters=("x",))
            return sorts_told(thing, (begin,), naming)[0][2]

        less = ("less", X, Y)
        self.assertEqual(assumed(less, ALL, other=ZERO), ((NEG, NULL), ()))
        self.assertEqual(assumed(less, ALL, other=num(-1)), ((NEG, NEG), ()))
        self.assertEqual(assumed(less, ALL), ((ALL, POS), ()))
        self.assertIsNone(assumed(less, POS, other=ZERO))
        self.assertIsNone(assumed(less, NULL, other=ZERO))
        equal = ("equal", X, Y)
        self.assertEqual(assumed(equal, ALL), ((POS, POS), ()))
        self.assertEqual(assumed(equal, ALL, other=ZERO), ((NULL, NULL), ()))
        self.assertIsNone(assumed(equal, ("neg", "zero")))

    def test_atoms_that_are_false(self):
        def denied(condition, begin, naming=SIGNS, other=num(5)):
            thing = program(("set", "y", other), ("check", condition), parameters=("x",))
            return sorts_told(thing, (begin,), naming)[0][3]

        self.assertEqual(denied(("less", X, Y), ALL, other=ZERO), ((("pos", "zero"), NULL), ()))
        self.assertEqual(denied(("less", X, Y), ALL), ((POS, POS), ()))
        self.assertEqual(denied(("less", X, Y), ALL, other=num(-1)), ((ALL, NEG), ()))
        self.assertIsNone(denied(("less", X, Y), NEG, other=ZERO))
        self.assertEqual(denied(("equal", X, Y), ALL, other=ZERO), ((("neg", "pos"), NULL), ()))
        self.assertEqual(denied(("equal", X, Y), ALL), ((ALL, POS), ()))
        self.assertIsNone(denied(("equal", X, Y), NULL, other=ZERO))
        # 5 has a class of its own, 4 has not
        self.assertIsNone(denied(("equal", X, Y), ("five",), MIXED))
        self.assertEqual(denied(("equal", X, Y), ("a", "five"), MIXED), ((("a",), ("five",)), ()))
        self.assertEqual(denied(("equal", X, Y), ("a",), MIXED, num(4)), ((("a",), ("a",)), ()))

    def test_atoms_of_nothing(self):
        state = ((ALL,), ())
        never = ("div", X, ZERO)
        for atom in [("less", never, X), ("less", X, never), ("equal", never, X), ("equal", X, never),
                     ("less", never, never), ("less", never, ONE), ("equal", ONE, never)]:
            thing = program(("assume", atom), parameters=("x",))
            # one nonzero for each never, then when and unless
            first = points_many(thing[0]) - 3
            table = [[state] * (first + 1) + [None, None]]
            self.assertIs(sorts_confirmed(thing, (ALL,), SIGNS, table), True)

    def test_one_variable_on_both_sides(self):
        def both(condition, begin, naming):
            thing = program(("assume", condition), parameters=("x",))
            return sorts_told(thing, (begin,), naming)[0][1:]

        # -1 and 1 are not classes of one integer, so each may be less than itself
        self.assertEqual(both(("less", X, X), ALL, SIGNS), [((ALL,), ()), ((ALL,), ())])
        self.assertEqual(both(("less", X, X), NULL, SIGNS), [None, ((NULL,), ())])
        three = ((0, 1, 2), 1, (("neg",), ("zero",), ("one",), ("more",)))
        self.assertEqual(both(("less", X, X), ("one", "zero"), three), [None, ((("one", "zero"),), ())])
        self.assertEqual(both(("equal", X, X), ("one", "zero"), three)[0], ((("one", "zero"),), ()))
        self.assertEqual(both(("equal", X, X), ("one", "zero"), three)[1], ((("one", "zero"),), ()))
        self.assertEqual(both(("equal", X, X), ("one",), three), [((("one",),), ()), None])
        four = ((0, 1, 2, 3), 1, (("neg",), ("zero",), ("one",), ("two",), ("more",)))
        self.assertEqual(both(("less", X, X), ("one", "two", "zero"), four)[0], ((("one",),), ()))
        # of two expressions that are no variables no class is lost, and none needs to stay for both
        self.assertEqual(both(("less", ("mul", X, ONE), ("mul", X, ONE)), ("one", "zero"), three)[0],
                         ((("one", "zero"),), ()))
        self.assertEqual(both(("less", ("mul", X, ONE), X), ("one", "zero"), three)[0], ((("one",),), ()))

    def test_classes_in_several_places(self):
        # "far" is below -3 and from 20 on, so it is on both sides of everything
        thing = program(("assume", ("less", X, num(5))), parameters=("x",))
        self.assertEqual(sorts_told(thing, (("a", "c", "far", "five"),), MIXED)[0][1], ((("a", "far"),), ()))
        # the class of -2 has 19 as well
        thing = program(("assume", ("less", X, num(-2))), parameters=("x",))
        self.assertEqual(sorts_told(thing, (("c", "five", "high"),), MIXED)[0][1], ((("c", "five"),), ()))
        thing = program(("assume", ("less", num(5), X)), parameters=("x",))
        self.assertEqual(sorts_told(thing, (("a", "far", "five", "low", "small"),), MIXED)[0][1], ((("a", "far"),), ()))
        self.assertEqual(sorts_told(thing, (("five", "small"),), MIXED)[0][1], None)

    def test_inputs(self):
        for low, high, expected in [(None, None, ALL), (0, None, ("pos", "zero")), (None, -1, NEG), (0, 0, NULL),
                                    (-1, 0, ("neg", "zero")), (GREATEST + 1, None, POS)]:
            self.assertEqual(behind(("input", "y", low, high))[0][1], expected)

    def test_greatest_is_not_looked_at(self):
        big = ((GREATEST + 1,), 1, (("low",), ("big",)))
        far = (("input", "x", GREATEST + 1, None), ("set", "y", X), ("put", "a", ZERO, X))
        state = ((("big",), ("big",)), (("big", "low"),))
        self.assertEqual(sorts_told(program(*far, arrays=(("a", 1),)), (), big)[0][-1], state)
        self.assertEqual(sorts_told(program(parameters=("x",)), (("big",),), big), [[((("big",),), ())]])
        self.assertEqual(sorts_told(program(("call", "y", "main", (X,)), parameters=("x",)), (("big",),), big)[0][0],
                         ((("big",), ("low",)), ()))

    def test_calls(self):
        # x is 0, then f gives 1
        self.assertEqual(sorts_told(TWO, (), SIGNS)[0][1:], [((POS,), ())] * 2)
        self.assertEqual(sorts_told(TWO, (), SIGNS)[1], [((("pos", "zero"),), ())])
        none = program(("call", "x", "f", (("div", ONE, ZERO),)), others=(MORE,))
        state = ((NULL,), ())
        # 0 nonzero 1; 1 call 2
        self.assertIs(sorts_confirmed(none, (), SIGNS, [[state, state, state], [None]]), True)
        void = program(("call", "x", "f", ()), others=(body(name="f", result=("div", ONE, ZERO)),))
        self.assertEqual(sorts_told(void, (), SIGNS), [[state, None], [((), ()), None]])
        self.assertIs(sorts_confirmed(void, (), SIGNS, [[state, None], [((), ()), ((), ())]]), True)

    def test_a_call_keeps_what_the_caller_has(self):
        thing = program(("put", "a", ZERO, num(-1)), ("call", "y", "f", (X,)), parameters=("x",), arrays=(("a", 2),),
                        others=(MORE,))
        self.assertEqual(sorts_told(thing, (NEG,), SIGNS)[0][-1], ((NEG, ALL), (("neg", "zero"),)))

    def test_no_widening(self):
        thing = (body(loop_to("x", num(4)), result=X),)
        cuts = tuple(range(7))
        naming = (cuts, 1, (("no",),) + tuple((f"n{k}",) for k in range(7)))
        told = sorts_told(thing, (), naming)
        # 0 skip 1; 1 when 2, unless 3
        self.assertEqual(told[0][1], ((("n0", "n1", "n2", "n3", "n4"),), ()))
        self.assertEqual(told[0][2], ((("n0", "n1", "n2", "n3"),), ()))
        self.assertEqual(told[0][3], ((("n4",),), ()))


class Told(unittest.TestCase):
    def test_by_the_words(self):
        for _, thing, begin, naming in draws(1, 40):
            self.assertEqual(sorts_told(thing, begin, naming), told_by_the_words(thing, begin, naming))

    def test_every_frame_of_every_run_is_covered(self):
        seen = 0
        for chance, thing, begin, naming in draws(2, 150):
            table = sorts_told(thing, begin, naming)
            for trace in traces(chance, thing, begin, naming, 4):
                seen += len(trace)
                for (f, k), frame in trace:
                    self.assertIs(sorts_cover(naming, table[f][k], frame), True, (thing, begin, naming, (f, k), frame))
        self.assertGreater(seen, 10000)

    def test_one_class(self):
        for thing in SPECIAL + likely(10):
            table = sorts_told(thing, (("all",),) * len(thing[0][1]), ONE_CLASS)
            for f, k in all_points(thing):
                if analyse(thing, (EVERY,) * len(thing[0][1]))[f][k] is not None:
                    self.assertIsNotNone(table[f][k])


class Confirmed(unittest.TestCase):
    def test_told_tables_are(self):
        for chance, thing, begin, naming in draws(3, 60):
            table = sorts_told(thing, begin, naming)
            self.assertIs(sorts_confirmed(thing, begin, naming, table), True)
            less = tuple(tuple(sorted(chance.sample(sort, chance.randint(1, len(sort))))) for sort in begin)
            self.assertIs(sorts_confirmed(thing, less, naming, table), True)

    def test_with_a_class_less_they_are_not(self):
        many = 0
        for chance, thing, begin, naming in draws(4, 30):
            table = sorts_told(thing, begin, naming)
            cases = [(point, None) for point in all_points(thing)]
            for f, k in all_points(thing):
                for row, sorts in enumerate(table[f][k] or ()):
                    for at, sort in enumerate(sorts):
                        cases += [((f, k), less_one(table[f][k], row, at, name)) for name in sort]
            for (f, k), state in chance.sample(cases, min(len(cases), 12)):
                if table[f][k] is not None:
                    rough = [list(rows) for rows in table]
                    rough[f][k] = state
                    self.assertIs(sorts_confirmed(thing, begin, naming, rough), False)
                    many += 1
        self.assertGreater(many, 200)

    def test_by_the_words(self):
        answers = {True: 0, False: 0}
        for chance, thing, begin, naming in draws(5, 40):
            every = tuple(classes(naming))
            table = sorts_told(thing, begin, naming)
            for f, k in chance.sample(all_points(thing), min(3, len(all_points(thing)))):
                if table[f][k] is not None:
                    table[f][k] = tuple(
                        tuple(every if chance.random() < 0.5 else sort for sort in sorts) for sorts in table[f][k])
            expected = all(
                is_within(incoming_sorts(thing, begin, naming, table, (f, k)), table[f][k]) for f, k in all_points(thing))
            self.assertIs(sorts_confirmed(thing, begin, naming, table), expected)
            answers[expected] += 1
        self.assertTrue(min(answers.values()) > 3, answers)

    def test_a_begin_that_is_not_within(self):
        table = sorts_told(TINY, (POS,), SIGNS)
        for sort in (NEG, NULL, ALL, ("pos", "zero")):
            self.assertIs(sorts_confirmed(TINY, (sort,), SIGNS, table), False)
        self.assertIs(sorts_confirmed(TINY, (POS,), SIGNS, [[None] * 3]), False)

    def test_confirmed_tables_cover_all_runs(self):
        for chance, thing, begin, naming in draws(6, 40):
            wide = tuple(tuple(sorted(set(sort) | set(drawn_sort(chance, naming)))) for sort in begin)
            table = sorts_told(thing, wide, naming)
            self.assertIs(sorts_confirmed(thing, begin, naming, table), True)
            for trace in traces(chance, thing, begin, naming, 2):
                self.assertTrue(all(sorts_cover(naming, table[f][k], frame) for (f, k), frame in trace))


class Cover(unittest.TestCase):
    def test_none(self):
        self.assertIs(sorts_cover(SIGNS, None, ((), ())), False)
        self.assertIs(sorts_cover(SIGNS, ((), ()), ((), ())), True)

    def test_each_number_and_item(self):
        state = ((POS, ("neg", "zero")), (NULL, ("pos", "zero")))
        self.assertIs(sorts_cover(SIGNS, state, ((3, -5), ((0, 0), (0, 7, 1)))), True)
        for frame in [((0, -5), ((0, 0), (0, 7, 1))), ((3, 1), ((0, 0), (0, 7, 1))), ((3, -5), ((0, 1), (0, 7, 1))),
                      ((3, -5), ((1, 0), (0, 7, 1))), ((3, -5), ((0, 0), (0, 7, -1))), ((3, -5), ((0, 0), (-1, 7, 1)))]:
            self.assertIs(sorts_cover(SIGNS, state, frame), False)
            self.assertIs(sorts_cover(as_lists(SIGNS), as_lists(state), as_lists(frame)), False)
        self.assertIs(sorts_cover(SIGNS, (((), POS), ()), ((3, 3), ())), False)

    def test_names(self):
        self.assertIs(sorts_cover(frame=[[4], []], sort_state=[[["even"]], []], naming=as_lists(PARITY)), True)


class Arguments(unittest.TestCase):
    def test_lists_names_and_unchanged_arguments(self):
        for _, thing, begin, naming in draws(7, 20):
            lists, sorts, rows = as_lists(thing), as_lists(begin), as_lists(naming)
            kept = copy.deepcopy((lists, sorts, rows))
            table = sorts_told(naming=rows, begin=sorts, program=lists)
            self.assertEqual(table, sorts_told(thing, begin, naming))
            rough = as_lists(table)
            self.assertIs(sorts_confirmed(table=rough, naming=rows, begin=sorts, program=lists), True)
            self.assertEqual(rough, as_lists(table))
            self.assertEqual((lists, sorts, rows), kept)
            self.assertIs(type(table), list)
            self.assertEqual([len(row) for row in table], [points_many(function) for function in thing])
            self.assertTrue(all(type(row) is list for row in table))
            self.assertFalse(any(has_list(state) or type(state) is list for row in table for state in row))

    def test_changed_results_change_nothing(self):
        first = sorts_told(LOOP, (), SIGNS)
        kept = [list(row) for row in first]
        first[0].clear()
        first.clear()
        self.assertEqual(sorts_told(LOOP, (), SIGNS), kept)


if __name__ == "__main__":
    unittest.main()
