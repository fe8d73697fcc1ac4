"""splits.py ([18]), with guarantee (d) of [1]."""

import copy
import random
import unittest

from shadowruns.engine import Settings, analyse
from shadowruns.errors import NoFunction, Taken, TooMany, Unsafe
from shadowruns.graph import edges, points_many
from shadowruns.programs import is_program, variables
from shadowruns.running import run
from shadowruns.splits import copied, folded, parted, unrolled
from shadowruns.states import covers, state_join
from shadowruns.values import EVERY, single
from tests.paths import unrolled_block, unrolled_origins
from tests.samples import ATOM, LOOP, MORE, ONE, TINY, TWO, X, Y, ZERO, as_lists, body, has_list, likely, made, program
from tests.tables import SPECIAL, draws, drawn_runs, loop_to, num, only

SAFE = [
    ATOM, ("equal", X, ("add", Y, ONE)), ("not", ATOM), ("and", ("less", X, num(3)), ("not", ("less", Y, num(2)))),
    ("or", ("less", X, num(1)), ("and", ("less", num(4), X), ("equal", Y, ZERO))), ("less", ("mul", X, X), num(9)),
]


def shown(origins, trace):
    """The trace that comes from one of a changed program."""
    return [(origins[f][k], frame) for (f, k), frame in trace if origins[f][k] is not None]


def shown_end(origins, end):
    """The end with its point, if it has one, replaced."""
    if end[0] == "done":
        return end
    f, k = end[-1]
    return end[:-1] + (origins[f][k],)


def sizes(thing):
    return [points_many(function) for function in thing]


def own(f, many):
    return [(f, k) for k in range(many)]


def all_splits(thing, chance):
    """Changed programs with their origins."""
    yield unrolled(thing, chance.choice([0, 1, 1, 2]))
    for function in thing:
        many = len([1 for other in thing if other[0] != function[0] for _, action, _ in edges(other)
                    if action[0] == "call" and action[2] == function[0]])
        yield copied(thing, function[0], ["q", "r", "s", "t"][:min(many, chance.randint(0, 4))])
        names = variables(function)
        if names:
            one, other = ("var", chance.choice(names)), ("var", chance.choice(names))
            yield parted(thing, function[0], chance.choice([
                ("less", one, num(chance.randint(-3, 5))), ("not", ("equal", one, other)),
                ("or", ("less", one, other), ("and", ("equal", one, num(2)), ("less", other, num(4))))]))


class Examples(unittest.TestCase):
    def test_of_the_document(self):
        self.assertEqual(copied(TWO, "f", ["g"])[1], [[(0, 0), (0, 1), (0, 2)], [(1, 0)], [(1, 0)]])
        self.assertEqual(copied(TWO, "f", ["g"])[0][0][3][0], ("call", "x", "g", (X,)))
        self.assertEqual(unrolled(LOOP, 1)[1], [
            [(0, 0), (0, 1), (0, 2), None, (0, 4), (0, 1), (0, 2), None, (0, 4), (0, 3)]])
        self.assertEqual(parted(TINY, "main", ("less", ("var", "n"), ZERO))[1], [
            [None, None, (0, 0), (0, 0), (0, 1), None, (0, 1), None, (0, 2)]])


class Unrolled(unittest.TestCase):
    STEP = ("set", "x", ("add", X, num(2)))
    C = ("less", X, num(10))

    def test_no_times(self):
        for thing in [TINY, LOOP, TWO] + SPECIAL + likely(20):
            self.assertEqual(unrolled(thing, 0), (thing, [own(f, many) for f, many in enumerate(sizes(thing))]))

    def test_once_and_twice(self):
        left = ("while", self.C, (self.STEP,))
        once = ("if", self.C, (self.STEP, left), ())
        self.assertEqual(unrolled(LOOP, 1)[0], (body(once, result=X),))
        twice = ("if", self.C, (self.STEP, once), ())
        made_program, origins = unrolled(LOOP, 2)
        self.assertEqual(made_program, (body(twice, result=X),))
        # first step, true, false, set; the same; head, true, false, set, q, q
        part = [(0, 1), (0, 2), None, (0, 4)]
        self.assertEqual(origins, [[(0, 0)] + part * 3 + [None, (0, 3)]])

    def test_a_loop_within_a_loop(self):
        inner = ("while", ("less", Y, X), (("set", "y", ("add", Y, ONE)),))
        thing = program(("while", self.C, (inner, self.STEP)), result=X)
        # old: 0; 1 head, 2 true, 3 false; 4 inner head, 5 true, 6 false, 7 set; 8 set
        new_inner = ("if", inner[1], inner[2] + (inner,), ())
        left = ("while", self.C, (new_inner, self.STEP))
        self.assertEqual(unrolled(thing, 1)[0], program(("if", self.C, (new_inner, self.STEP, left), ()), result=X))
        turn = [1, 2, None] + [4, 5, None, 7, 4, 5, None, 7, 6] + [8]
        expected = [0] + turn + turn + [3]
        self.assertEqual(unrolled(thing, 1)[1], [[None if k is None else (0, k) for k in expected]])

    def test_a_loop_in_branches_and_a_result_behind(self):
        loop = loop_to("x", num(3))
        thing = program(("if", ATOM, (loop,), (loop, ("set", "y", ONE))), arrays=(("a", 5),), result=("item", "a", X))
        # old: 0; 1 first, 2 true, 3 false; 4 head 5 6 7; 8 head 9 10 11, 12 set; 13 q; 14 within
        one, other = [4, 5, None, 7, 4, 5, None, 7, 6], [8, 9, None, 11, 8, 9, None, 11, 10]
        expected = [0, 1, 2, 3] + one + other + [12, 13, 14]
        self.assertEqual(unrolled(thing, 1)[1], [[None if k is None else (0, k) for k in expected]])

    def test_the_false_point_of_each_condition(self):
        less = ("less", X, num(3))
        for condition, points in [
            # when 2, unless 3
            (less, [2, None]), (("not", less), [None, 3]), (("not", ("not", less)), [2, None]),
            # when 2, unless 3, when 4, unless 5, 6 from 3 and 5
            (("and", less, ATOM), [2, 3, 4, 5, None]),
            # when 2, unless 3, when 4, unless 5, 6 from 2 and 4
            (("or", less, ATOM), [2, 3, 4, None, 6]),
            (("not", ("and", less, ATOM)), [2, 3, None, 5, 6]),
            (("not", ("or", less, ATOM)), [2, 3, 4, 5, None]),
            # nonzero 2, when 3, unless 4
            (("less", ("div", X, Y), X), [2, 3, None]),
        ]:
            thing = program(("while", condition, ()))
            false = [k for k, point in enumerate(points) if point is None][0] + 2
            self.assertEqual(unrolled(thing, 1)[1], [
                [None if k is None else (0, k) for k in [0] + ([1] + points) * 2 + [false]]], condition)

    def test_an_empty_loop(self):
        made_program, origins = unrolled(program(("while", ATOM, ())), 2)
        left = ("while", ATOM, ())
        self.assertEqual(made_program, program(("if", ATOM, (("if", ATOM, (left,), ()),), ())))
        self.assertEqual(origins, [[(0, 0)] + [(0, 1), (0, 2), None] * 3 + [None, (0, 3)]])

    def test_by_the_words(self):
        for thing in SPECIAL + likely(60) + made(60):
            for times in (0, 1, 2):
                new, origins = unrolled(thing, times)
                self.assertEqual(new, tuple(row[:3] + (unrolled_block(row[3], times),) + row[4:] for row in thing))
                self.assertEqual(origins, [
                    unrolled_origins(f, old, row, times) for f, (old, row) in enumerate(zip(thing, new))])

    def test_six_levels(self):
        block = (self.STEP,)
        for _ in range(6):
            block = (("while", self.C, block),)
        thing = program(*block)
        new, origins = unrolled(thing, 2)
        self.assertTrue(is_program(new))
        self.assertEqual([len(row) for row in origins], sizes(new))
        self.assertEqual(origins, [unrolled_origins(0, thing[0], new[0], 2)])


class Copied(unittest.TestCase):
    def test_the_first_calls(self):
        call = TWO[0][3][0]

        def with_names(*names):
            return program(*[call[:2] + (name,) + call[3:] for name in names], result=X, others=(MORE,))

        for names in [[], ["g"], ["h", "g"], ["mainmain"]]:
            new, origins = copied(TWO, "f", names)
            expected = with_names(*(names + ["f", "f"])[:2])
            self.assertEqual(new, expected + tuple((name,) + MORE[1:] for name in names))
            self.assertEqual(origins, [own(0, 3), own(1, 1)] + [own(1, 1) for _ in names])

    def test_the_order_of_the_calls(self):
        def calls(*names):
            return tuple(("call", "x", name, (X,)) for name in names)

        first, second, third, fourth = calls(*"ffff")
        thing = (
            body(("if", ATOM, (("while", ATOM, (first,)),), (second,)), third), MORE,
            body(fourth, name="h", parameters=("x",)),
        )
        for many in range(5):
            one, two, three, four = calls(*(list("abcd")[:many] + list("ffff")[many:]))
            new, origins = copied(thing, "f", list("abcd")[:many])
            self.assertEqual(new[:3], (
                body(("if", ATOM, (("while", ATOM, (one,)),), (two,)), three), MORE,
                body(four, name="h", parameters=("x",)),
            ))
            self.assertEqual(new[3:], tuple((name,) + MORE[1:] for name in list("abcd")[:many]))
            self.assertEqual(origins, [own(f, size) for f, size in enumerate(sizes(thing))] + [own(1, 1)] * many)

    def test_a_function_that_calls_itself(self):
        again = ("call", "x", "f", (X,))
        itself = body(again, again, ("call", "y", "main", ()), name="f", parameters=("x",))
        thing = (body(("call", "x", "f", (ONE,)), ("call", "y", "main", ())), itself)
        new, origins = copied(thing, "f", ["g"])
        self.assertEqual(new, (
            body(("call", "x", "g", (ONE,)), ("call", "y", "main", ())), itself, ("g",) + itself[1:]))
        self.assertEqual(origins, [own(0, 3), own(1, 4), own(1, 4)])
        with self.assertRaises(TooMany) as caught:
            copied(thing, "f", ["g", "h"])
        self.assertEqual(caught.exception.many, 1)

    def test_calls_within_the_function_ahead_of_others(self):
        itself = body(("call", "x", "f", (X,)), name="f", parameters=("x",))
        caller = body(("call", "x", "f", (ONE,)), name="h")
        changed = body(("call", "x", "g", (ONE,)), name="h")
        self.assertEqual(copied((body(), itself, caller), "f", ["g"])[0], (body(), itself, changed, ("g",) + itself[1:]))
        main = body(("call", "x", "main", ()))
        caller, changed = body(("call", "x", "main", ()), name="h"), body(("call", "x", "g", ()), name="h")
        self.assertEqual(copied((main, caller), "main", ["g"])[0], (main, changed, ("g",) + main[1:]))

    def test_main_itself(self):
        thing = SPECIAL[7]
        new, origins = copied(thing, "main", ["k"])
        self.assertEqual([function[0] for function in new], ["main", "f", "g", "k"])
        self.assertEqual(new[3][1:], thing[0][1:])
        self.assertEqual(origins[3], own(0, points_many(thing[0])))
        self.assertEqual(new[0], thing[0])

    def test_no_such_function(self):
        for name, names in [("g", []), ("g", ["f"]), ("x", ["a", "a"]), ("main" * 2, list("abcdef"))]:
            with self.assertRaises(NoFunction) as caught:
                copied(TWO, name, names)
            self.assertEqual(caught.exception.name, name)

    def test_names_that_are_taken(self):
        for names, taken in [(["f"], "f"), (["main"], "main"), (["g", "f"], "f"), (["g", "g"], "g"),
                             (["g", "h", "h", "f"], "h"), (["g", "h", "f", "h"], "f"), (["a", "b", "c", "a"], "a")]:
            with self.assertRaises(Taken) as caught:
                copied(TWO, "f", names)
            self.assertEqual(caught.exception.name, taken)

    def test_too_many_names(self):
        for name, many in [("f", 2), ("main", 0)]:
            with self.assertRaises(TooMany) as caught:
                copied(TWO, name, ["a", "b", "c"][:many + 1])
            self.assertEqual(caught.exception.many, many)
        self.assertEqual(copied(TWO, "main", []), (TWO, [own(0, 3), own(1, 1)]))

    def test_a_call_that_raises_changes_nothing(self):
        thing, names = as_lists(TWO), ["a", "b", "c"]
        with self.assertRaises(TooMany):
            copied(thing, "f", names)
        self.assertEqual((thing, names), (as_lists(TWO), ["a", "b", "c"]))

    def test_names_are_kept(self):
        for kind in (list, tuple):
            names = kind(["a", "b"])
            copied(TWO, "f", names)
            self.assertEqual(names, kind(["a", "b"]))


class Parted(unittest.TestCase):
    def test_each_point(self):
        thing = program(("set", "x", ONE), ("while", ATOM, (("set", "y", X),)), result=("div", X, Y))
        # old: 0; 1 set; 2 head, 3 true, 4 false, 5 set; 6 nonzero; the body ends at 4
        condition = ("and", ATOM, ("not", ("equal", X, ONE)))
        # when, unless; when, unless; merged: true is the unless of equal, false is merged
        new, origins = parted(thing, "main", condition)
        self.assertEqual(new, (("main", (), (), (("if", condition, thing[0][3], thing[0][3]),), ("div", X, Y)),))
        case = [(0, 1), (0, 2), (0, 3), None, (0, 5)]
        self.assertEqual(origins, [
            [None, None] + [None, None, None, (0, 0), (0, 0)] + case + case + [(0, 4), (0, 6)]])

    def test_an_empty_body(self):
        thing = program(parameters=("x", "y"), arrays=(("a", 4),), result=("item", "a", X))
        for condition, many in [(ATOM, 2), (("not", ATOM), 2), (("or", ATOM, ATOM), 5)]:
            new, origins = parted(thing, "main", condition)
            self.assertEqual(new[0][3], (("if", condition, (), ()),))
            self.assertEqual(origins, [[None, None] + [None] * many + [(0, 0), (0, 1)]])

    def test_another_function(self):
        condition = ("less", ("var", "n"), num(5))
        new, origins = parted(TWO, "f", condition)
        self.assertEqual(new, (TWO[0], MORE[:3] + ((("if", condition, (), ()),),) + MORE[4:]))
        self.assertEqual(origins, [own(0, 3), [None, None, None, None, (1, 0)]])

    def test_conditions_that_are_safe(self):
        thing = program(("set", "x", Y))
        for condition in SAFE:
            new, origins = parted(thing, "main", condition)
            self.assertTrue(is_program(new))
            self.assertEqual([len(row) for row in origins], sizes(new))

    def test_conditions_that_are_not(self):
        thing = program(("put", "a", X, Y), arrays=(("a", 3), ("b", 3)), parameters=("p",))
        item = ("item", "a", ZERO)
        for e in [item, ("div", X, ONE), ("mod", X, ONE), ("var", "z"), ("var", "main"), ("add", X, item),
                  ("add", ("sub", X, ("mul", ONE, ("var", "q"))), X), ("var", "a"), ("mul", ("mod", X, Y), ONE)]:
            for condition in [("less", e, X), ("less", X, e), ("equal", e, X), ("not", ("equal", X, e)),
                              ("and", ATOM, ("less", e, X)), ("and", ("less", e, X), ATOM), ("or", ATOM, ("less", e, X)),
                              ("or", ("not", ("less", X, e)), ATOM)]:
                for given in (condition, as_lists(condition)):
                    with self.assertRaises(Unsafe) as caught:
                        parted(thing, "main", given)
                    self.assertEqual(caught.exception.condition, condition)
                    self.assertFalse(has_list(caught.exception.condition))
        self.assertTrue(parted(thing, "main", ("less", X, ("var", "p"))))

    def test_a_variable_of_another_function(self):
        with self.assertRaises(Unsafe):
            parted(TWO, "f", ("less", X, ONE))
        with self.assertRaises(Unsafe):
            parted(TWO, "main", ("less", ("var", "n"), ONE))

    def test_no_such_function(self):
        for condition in (ATOM, ("less", ("div", X, X), X)):
            with self.assertRaises(NoFunction) as caught:
                parted(TWO, "g", condition)
            self.assertEqual(caught.exception.name, "g")


class Runs(unittest.TestCase):
    def test_traces_and_ends(self):
        many = changed = 0
        for chance, thing, begin, _ in draws(1, 80):
            tries = drawn_runs(chance, begin, 2)
            for new, origins in all_splits(thing, chance):
                self.assertTrue(is_program(new))
                self.assertEqual([len(row) for row in origins], sizes(new))
                for numbers, inputs in tries:
                    # here a new run is not even ten times as long as the old one
                    old_end, old_trace = run(thing, numbers, inputs, 200)
                    end, trace = run(new, numbers, inputs, 2000)
                    if end[0] == "open":
                        self.assertEqual(old_end[0], "open")
                    elif old_end[0] != "open":
                        self.assertEqual((shown_end(origins, end), shown(origins, trace)), (old_end, old_trace))
                        many += 1
                        changed += len(trace) != len(old_trace)
        self.assertGreater(many, 500)
        self.assertGreater(changed, 200)

    def test_each_point_leads_on_like_the_one_that_it_stands_for(self):
        chance = random.Random(3)
        for thing in likely(60, 500) + made(40):
            for new, origins in all_splits(thing, chance):
                for function, row in zip(new, origins):
                    for start, action, _ in edges(function):
                        if row[start] is not None and action != ("skip",):
                            f, k = row[start]
                            old = [other for other in edges(thing[f]) if other[0] == k]
                            signs = [(other[0],) + other[1:2] + other[3:] if other[0] == "call" else other
                                     for _, other, _ in old]
                            sign = (action[0],) + action[1:2] + action[3:] if action[0] == "call" else action
                            self.assertTrue(sign in signs or (action[0] in ("when", "unless") and k == 0))


class Folded(unittest.TestCase):
    def test_joins(self):
        two = program(("set", "x", Y), others=(MORE,))
        table = [[only(single(1), EVERY), None, only(single(5), single(2))], [only(single(9), N) for N in (EVERY,)],
                 [only(single(7), single(3)), only(single(3), single(3))]]
        origins = [[(0, 0), (0, 1), (0, 0)], [None], [(0, 1), (1, 0)]]
        self.assertEqual(folded(two, origins, table), [
            [only((1, 5, 4, 1), EVERY), only(single(7), single(3))], [only(single(3), single(3))]])
        self.assertEqual(folded(two, [[None] * 3, [None], [None] * 2], table), [[None, None], [None]])
        self.assertEqual(folded(two, origins, [[None] * 3, [None], [None] * 2]), [[None, None], [None]])

    def test_by_the_words(self):
        for chance, thing, begin, settings in draws(2, 8):
            for new, origins in all_splits(thing, chance):
                table = analyse(new, begin, settings)
                expected = []
                for f, many in enumerate(sizes(thing)):
                    expected.append([])
                    for k in range(many):
                        found = None
                        for places, states in zip(origins, table):
                            for place, state in zip(places, states):
                                if place == (f, k):
                                    found = state_join(found, state)
                        expected[f].append(found)
                self.assertEqual(folded(thing, origins, table), expected)

    def test_they_describe_all_runs_of_the_old_program(self):
        seen = 0
        for chance, thing, begin, settings in draws(3, 25):
            tries = drawn_runs(chance, begin, 3)
            traces = [run(thing, numbers, inputs, 300)[1] for numbers, inputs in tries]
            for new, origins in all_splits(thing, chance):
                table = folded(thing, origins, analyse(new, begin, settings))
                for trace in traces:
                    seen += len(trace)
                    for (f, k), frame in trace:
                        self.assertTrue(covers(thing[f], table[f][k], frame), (thing, begin, (f, k), frame))
        self.assertGreater(seen, 10000)

    def test_what_cases_tell(self):
        # in one go 8 // n may be a division by 0 only if n is; each case knows its sign
        condition = ("less", ("var", "n"), ZERO)
        new, origins = parted(TINY, "main", condition)
        table = analyse(new, ((-4, 4, 1, 0),), Settings())
        self.assertEqual(table[0][4][0][0], (-4, -1, 1, 0))
        self.assertEqual(folded(TINY, origins, table)[0][0][0], ((-4, 4, 1, 0), single(0)))


class Arguments(unittest.TestCase):
    def test_lists_names_and_unchanged_arguments(self):
        condition = ["less", ["var", "n"], ["num", 0]]
        lists, kept = as_lists(TWO), as_lists(TWO)
        self.assertEqual(copied(names=("g",), name="f", program=lists), copied(TWO, "f", ["g"]))
        self.assertEqual(parted(condition=condition, name="f", program=lists), parted(TWO, "f", ATOM[:1] + (
            ("var", "n"), ZERO)))
        self.assertEqual((lists, condition), (kept, ["less", ["var", "n"], ["num", 0]]))
        loop = as_lists(LOOP)
        self.assertEqual(unrolled(times=2, program=loop), unrolled(LOOP, 2))
        self.assertEqual(loop, as_lists(LOOP))

    def test_kinds_of_values(self):
        for found in (unrolled(as_lists(LOOP), 1), copied(as_lists(TWO), "f", ["g"]),
                      parted(as_lists(TINY), "main", as_lists(("less", ("var", "n"), ZERO)))):
            self.assertIs(type(found), tuple)
            self.assertIs(is_program(found[0]), True)
            self.assertIs(type(found[1]), list)
            self.assertTrue(all(type(row) is list for row in found[1]))
            self.assertTrue(all(place is None or type(place) is tuple for row in found[1] for place in row))

    def test_folded(self):
        new, origins = unrolled(LOOP, 1)
        table = analyse(new, ())
        rows, places = as_lists(table), as_lists(origins)
        kept = copy.deepcopy((rows, places))
        found = folded(table=rows, origins=places, program=as_lists(LOOP))
        self.assertEqual(found, folded(LOOP, origins, table))
        self.assertEqual((rows, places), kept)
        self.assertFalse(any(has_list(state) for row in found for state in row))
        found[0].clear()
        self.assertEqual(folded(LOOP, tuple(origins), tuple(table))[0][3], only(single(10)))

    def test_new_lists(self):
        for call in (lambda: unrolled(LOOP, 1), lambda: copied(TWO, "f", ["g"]), lambda: parted(TWO, "f", (
                "less", ("var", "n"), ZERO))):
            first = call()
            kept = copy.deepcopy(first)
            for row in first[1]:
                row.clear()
            self.assertEqual(call(), kept)


if __name__ == "__main__":
    unittest.main()
