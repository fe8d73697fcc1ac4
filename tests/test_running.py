"""running.py ([7], with [4] and [5])."""

import random
import unittest

from shadowruns.graph import edges, exit_of
from shadowruns.limits import GREATEST
from shadowruns.running import frames_at, run, witness
from tests.samples import (
    LOOP, MORE, ONE, TINY, TWO, X, Y, ZERO, as_lists, body, has_list, made, program,
)
from tests.walker import walked

TRUE, FALSE = ("equal", ZERO, ZERO), ("less", ZERO, ZERO)
A3 = (("a", 3),)
TOP = ("num", GREATEST)


def num(n):
    return ("num", n)


def bad(kind="less"):
    """A condition that faults: the division of 1 by 0."""
    return (kind, ("div", ONE, ZERO), ONE)


def end_of(thing, numbers=(), inputs=(), steps=100):
    return run(thing, list(numbers), list(inputs), steps)[0]


def points_of(trace):
    return [point for point, _ in trace]


class Examples(unittest.TestCase):
    def test_of_the_document(self):
        self.assertEqual(run(TINY, [3], [], 9), (
            ("done", 2), [((0, 0), ((3, 0), ())), ((0, 1), ((3, 0), ())), ((0, 2), ((3, 2), ()))],
        ))
        self.assertEqual(run(TINY, [0], [], 9)[0], ("fault", "division", (0, 0)))
        self.assertEqual(witness(TINY, [([3], []), ([0], [])], (0, 0), "division", 9), 1)

    def test_trace_of_a_fault(self):
        self.assertEqual(run(TINY, [0], [], 9)[1], [((0, 0), ((0, 0), ()))])


class Ends(unittest.TestCase):
    def test_done(self):
        self.assertEqual(run(program(), [], [], 5), (("done", 0), [((0, 0), ((), ()))]))
        self.assertEqual(end_of(program(result=X, parameters=("x",)), [-7]), ("done", -7))

    def test_done_with_a_result_of_any_size(self):
        square = ("mul", X, X)
        thing = program(result=("mul", square, square), parameters=("x",))
        self.assertEqual(end_of(thing, [GREATEST]), ("done", GREATEST ** 4))
        self.assertEqual(end_of(thing, [-GREATEST]), ("done", GREATEST ** 4))
        self.assertEqual(end_of(program(result=("sub", X, ONE), parameters=("x",)), [-GREATEST]),
            ("done", -GREATEST - 1))

    def test_stopped(self):
        thing = program(("assume", ("less", X, ONE)), parameters=("x",), result=X)
        # 0 when 1, unless 2; 2 stop 1
        self.assertEqual(end_of(thing, [0]), ("done", 0))
        self.assertEqual(run(thing, [1], [], 9)[0], ("stopped", (0, 2)))
        self.assertEqual(points_of(run(thing, [1], [], 9)[1]), [(0, 0), (0, 2)])

    def test_fault_of_a_check(self):
        thing = program(("set", "y", ONE), ("check", ("less", X, Y)), parameters=("x",))
        self.assertEqual(end_of(thing, [0]), ("done", 0))
        self.assertEqual(end_of(thing, [1]), ("fault", "check", (0, 3)))

    def test_fault_of_a_division(self):
        for sign, ends in (("div", [-3, 0, 2]), ("mod", [1, 1, 1])):
            thing = program(result=(sign, num(7), X), parameters=("x",))
            self.assertEqual(end_of(thing, [0]), ("fault", "division", (0, 0)))
            found = [end_of(thing, [n]) for n in (-3, 8, 3)]
            expected = [7 // n if sign == "div" else 7 % n for n in (-3, 8, 3)]
            self.assertEqual(found, [("done", n) for n in expected])

    def test_fault_of_an_index(self):
        read = program(arrays=A3, result=("item", "a", X), parameters=("x",))
        written = program(("put", "a", X, num(5)), arrays=A3, result=("item", "a", num(2)), parameters=("x",))
        for thing in (read, written):
            for n in (-1, 3, -GREATEST, GREATEST):
                self.assertEqual(end_of(thing, [n]), ("fault", "index", (0, 0)))
            for n in (0, 1):
                self.assertEqual(end_of(thing, [n]), ("done", 0))
        self.assertEqual((end_of(read, [2]), end_of(written, [2])), (("done", 0), ("done", 5)))

    def test_index_of_the_right_array(self):
        thing = program(arrays=(("a", 2), ("b", 4)), result=("item", "b", X), parameters=("x",))
        self.assertEqual([end_of(thing, [n])[0] for n in (3, 4)], ["done", "fault"])

    def test_inputs(self):
        thing = program(("input", "x", 2, 5), result=X)
        self.assertEqual(end_of(thing), ("inputs", (0, 0)))
        self.assertEqual([end_of(thing, (), [n]) for n in (1, 6)], [("inputs", (0, 0))] * 2)
        self.assertEqual([end_of(thing, (), [n]) for n in (2, 5)], [("done", 2), ("done", 5)])
        two = program(("input", "x", None, 5), ("input", "y", 2, None), result=("sub", X, Y))
        self.assertEqual(end_of(two, (), [-9, 99, 7]), ("done", -108))
        self.assertEqual(end_of(two, (), [6, 99]), ("inputs", (0, 0)))
        self.assertEqual(end_of(two, (), [5]), ("inputs", (0, 1)))
        self.assertEqual(end_of(two, (), [5, 1]), ("inputs", (0, 1)))

    def test_inputs_and_greatest(self):
        free = program(("input", "x", None, None), result=X)
        self.assertEqual(end_of(free, (), [GREATEST]), ("done", GREATEST))
        self.assertEqual(end_of(free, (), [-GREATEST]), ("done", -GREATEST))
        self.assertEqual(end_of(free, (), [GREATEST + 1]), ("great", (0, 0)))
        self.assertEqual(end_of(free, (), [-GREATEST - 1]), ("great", (0, 0)))
        self.assertEqual(end_of(program(("input", "x", None, 5)), (), [GREATEST + 1]), ("inputs", (0, 0)))
        self.assertEqual(end_of(program(("input", "x", 5, None)), (), [-GREATEST - 1]), ("inputs", (0, 0)))
        wide = program(("input", "x", -10 ** 40, 10 ** 40))
        self.assertEqual(end_of(wide, (), [10 ** 40]), ("great", (0, 0)))
        self.assertEqual(end_of(wide, (), [10 ** 40 + 1]), ("inputs", (0, 0)))

    def test_great(self):
        for n, m in ((GREATEST, 1), (-GREATEST, -1)):
            rows = [
                program(("set", "x", ("add", num(n), X)), parameters=("x",)),
                program(("put", "a", ZERO, ("add", num(n), X)), parameters=("x",), arrays=(("a", 1),)),
                program(("call", "y", "g", (ZERO, ("add", num(n), X))), parameters=("x",),
                        others=(body(name="g", parameters=("p", "q")),)),
            ]
            for k, thing in enumerate(rows):
                point = (0, 1) if k == 1 else (0, 0)
                self.assertEqual(end_of(thing, [0])[0], "done")
                self.assertEqual(end_of(thing, [m]), ("great", point))
                self.assertEqual(points_of(run(thing, [m], [], 9)[1])[-1], point)

    def test_great_for_the_result_of_a_call(self):
        called = body(("set", "p", ("mul", X, ONE)), name="g", parameters=("x",), result=("mul", X, num(2)))
        thing = program(("set", "x", X), ("call", "y", "g", (X,)), parameters=("x",), result=Y, others=(called,))
        self.assertEqual(end_of(thing, [GREATEST // 2]), ("done", GREATEST))
        end, trace = run(thing, [GREATEST], [], 9)
        self.assertEqual(end, ("great", (0, 1)))
        self.assertEqual(points_of(trace), [(0, 0), (0, 1), (1, 0), (1, 1)])

    def test_no_great_within_expressions(self):
        e = ("sub", ("mul", TOP, TOP), ("sub", ("mul", TOP, TOP), num(3)))
        self.assertEqual(end_of(program(("set", "x", e), result=X)), ("done", 3))
        self.assertEqual(end_of(program(("check", ("less", TOP, ("mul", TOP, TOP))))), ("done", 0))
        self.assertEqual(end_of(program(result=("item", "a", ("div", ("mul", TOP, TOP), ("mul", TOP, TOP))),
            arrays=A3)),
                         ("done", 0))


class FirstEnds(unittest.TestCase):
    def test_the_guards_come_first(self):
        great, split = ("mul", TOP, TOP), ("div", ONE, ZERO)
        beyond = ("item", "a", num(3))
        for statement, end in [
            (("set", "x", ("add", great, split)), ("fault", "division", (0, 0))),
            (("set", "x", ("add", beyond, split)), ("fault", "index", (0, 0))),
            (("set", "x", ("add", split, beyond)), ("fault", "division", (0, 0))),
            (("put", "a", num(3), great), ("fault", "index", (0, 0))),
            (("put", "a", num(3), split), ("fault", "division", (0, 0))),
            (("put", "a", split, beyond), ("fault", "division", (0, 0))),
            (("put", "a", num(2), great), ("great", (0, 1))),
            (("call", "x", "f", (("add", great, split),)), ("fault", "division", (0, 0))),
            (("call", "x", "f", (beyond,)), ("fault", "index", (0, 0))),
            (("check", ("equal", great, split)), ("fault", "division", (0, 0))),
            (("set", "x", ("mod", split, ZERO)), ("fault", "division", (0, 0))),
            (("set", "x", ("mod", beyond, ZERO)), ("fault", "index", (0, 0))),
            (("set", "x", ("item", "a", beyond)), ("fault", "index", (0, 0))),
            (("set", "x", ("item", "a", ("mod", num(3), ("sub", num(8), num(4))))), ("fault", "index", (0, 1))),
        ]:
            with self.subTest(statement):
                self.assertEqual(end_of(program(statement, arrays=A3, others=(MORE,))), end)

    def test_of_statements(self):
        thing = program(("input", "x", None, None), ("check", ("less", X, ONE)), ("assume", ("less", X, ZERO)))
        # 0 input 1; 1 when 2, unless 3; 3 fail 2; 2 when 4, unless 5; 5 stop 4
        self.assertEqual([end_of(thing, (), row) for row in ([], [1], [0], [-1])], [
            ("inputs", (0, 0)), ("fault", "check", (0, 3)), ("stopped", (0, 5)), ("done", 0),
        ])
        turned = program(("assume", ("less", X, ONE)), ("check", ("less", X, ZERO)), parameters=("x",))
        self.assertEqual([end_of(turned, [n])[0] for n in (1, 0, -1)], ["stopped", "fault", "done"])

    def test_in_called_functions(self):
        called = body(("check", ("less", X, ONE)), name="g", parameters=("x",), result=("div", ONE, X))
        thing = program(("call", "y", "g", (X,)), parameters=("x",), others=(called,))
        self.assertEqual(end_of(thing, [1]), ("fault", "check", (1, 2)))
        self.assertEqual(end_of(thing, [0]), ("fault", "division", (1, 1)))
        self.assertEqual(end_of(thing, [-1]), ("done", 0))
        called = body(("assume", ("less", X, ONE)), name="g", parameters=("x",))
        thing = program(("call", "y", "g", (X,)), ("check", FALSE), parameters=("x",), others=(called,))
        self.assertEqual(end_of(thing, [1]), ("stopped", (1, 2)))
        self.assertEqual(end_of(thing, [0]), ("fault", "check", (0, 3)))


class Conditions(unittest.TestCase):
    def test_atoms(self):
        for atom, ends in ((("less", X, Y), [True, False, False]), (("equal", X, Y), [False, True, False])):
            thing = program(("if", atom, (("set", "z", ONE),), ()), parameters=("x", "y"), result=("var", "z"))
            self.assertEqual([end_of(thing, [n, 4])[1] == 1 for n in (3, 4, 5)], ends)

    def test_all_of_not_and_or(self):
        def condition(n):
            return TRUE if n else FALSE
        for a in (0, 1):
            self.assertEqual(end_of(program(("check", ("not", condition(a)))))[0], "fault" if a else "done")
            for b in (0, 1):
                for sign, truth in (("and", a and b), ("or", a or b)):
                    whole = (sign, condition(a), condition(b))
                    self.assertEqual(end_of(program(("check", whole)))[0], "done" if truth else "fault")
                    self.assertEqual(end_of(program(("check", ("not", whole))))[0], "fault" if truth else "done")

    def test_one_side_alone_is_looked_at(self):
        for condition, end in [
            (("and", FALSE, bad()), "check"), (("or", TRUE, bad()), None), (("and", TRUE, bad()), "division"),
            (("or", FALSE, bad()), "division"), (("and", bad(), FALSE), "division"), (("or", bad(), TRUE), "division"),
            (("not", ("and", FALSE, bad("equal"))), None), (("not", ("or", TRUE, bad("equal"))), "check"),
            (("or", ("and", FALSE, bad()), TRUE), None), (("and", ("or", TRUE, bad()), FALSE), "check"),
        ]:
            found = end_of(program(("check", condition)))
            self.assertEqual(found[1] if found[0] == "fault" else None, end, condition)

    def test_branches(self):
        thing = program(("if", ("less", X, ONE), (("set", "y", num(5)),), (("set", "y", num(6)),)),
                        parameters=("x",), result=Y)
        # 0 skip 1; 1 when 2, unless 3; 2 set 4; 3 set 5; 4 and 5 skip 6
        for n, points, result in ((0, [0, 1, 2, 4, 6], 5), (1, [0, 1, 3, 5, 6], 6)):
            end, trace = run(thing, [n], [], 9)
            self.assertEqual(end, ("done", result))
            self.assertEqual(points_of(trace), [(0, k) for k in points])


class Loops(unittest.TestCase):
    def test_trace_of_a_loop(self):
        end, trace = run(LOOP, [], [], 99)
        self.assertEqual(end, ("done", 10))
        round_ = [(0, 1), (0, 2), (0, 4)]
        self.assertEqual(points_of(trace), [(0, 0)] + round_ * 5 + [(0, 1), (0, 3)])
        self.assertEqual([numbers for (_, k), ((numbers,), _) in trace if k == 1], [0, 2, 4, 6, 8, 10])
        self.assertEqual([numbers for (_, k), ((numbers,), _) in trace if k == 4], [2, 4, 6, 8, 10])

    def test_a_loop_that_is_not_entered(self):
        thing = program(("while", ("less", X, ZERO), (("check", FALSE),)), parameters=("x",))
        self.assertEqual(run(thing, [0], [], 9), (("done", 0), [((0, k), ((0,), ())) for k in (0, 1, 3)]))

    def test_loops_in_each_other(self):
        inner = ("while", ("less", Y, X), (("set", "y", ("add", Y, ONE)), ("set", "z", ("add", ("var", "z"), ONE))))
        thing = program(("while", ("less", X, num(4)), (("set", "y", ZERO), inner, ("set", "x", ("add", X, ONE)))),
                        result=("var", "z"))
        self.assertEqual(end_of(thing), ("done", 6))

    def test_a_loop_without_end(self):
        end, trace = run(program(("while", TRUE, ())), [], [], 2000)
        # 0 skip 1; 1 when 2, unless 3; 2 skip 1
        self.assertEqual((end, len(trace)), (("open", (0, 1)), 2000))

    def test_all_inputs(self):
        thing = program(("while", ("less", X, num(50)), (
            ("input", "y", None, None), ("put", "a", ("mod", X, num(3)), ("add", ("item", "a", ("mod", X, num(3))), Y)),
            ("set", "x", ("add", X, ONE)),
        )), arrays=A3, result=("item", "a", ONE))
        inputs = list(range(-10, 40))
        self.assertEqual(end_of(thing, (), inputs, 2000), ("done", sum(inputs[1::3])))
        self.assertEqual(end_of(thing, (), inputs[:-1], 2000)[0], "inputs")
        self.assertEqual(inputs, list(range(-10, 40)))


class Steps(unittest.TestCase):
    def test_as_many_items_as_steps(self):
        self.assertEqual(run(TINY, [3], [], 3)[0], ("done", 2))
        self.assertEqual(run(TINY, [3], [], 2), (("open", (0, 1)), run(TINY, [3], [], 9)[1][:2]))
        self.assertEqual(run(TINY, [3], [], 1), (("open", (0, 0)), run(TINY, [3], [], 9)[1][:1]))

    def test_a_single_step(self):
        for thing, end in [
            (program(), ("done", 0)), (program(("set", "x", ONE)), ("open", (0, 0))),
            (program(result=("div", ONE, ZERO)), ("fault", "division", (0, 0))),
            (program(result=("item", "a", num(3)), arrays=A3), ("fault", "index", (0, 0))),
            (program(("input", "x", 0, 0)), ("inputs", (0, 0))),
            (program(("set", "x", num(GREATEST + 1))), ("great", (0, 0))),
            (program(("call", "x", "f", (num(-GREATEST - 1),)), others=(MORE,)), ("great", (0, 0))),
            (program(("call", "x", "f", (ONE,)), others=(MORE,)), ("open", (0, 0))),
        ]:
            self.assertEqual(run(thing, [], [], 1)[0], end)
            self.assertEqual(points_of(run(thing, [], [], 1)[1]), [(0, 0)])

    def test_an_end_at_the_last_point(self):
        for statement in (("check", FALSE), ("assume", FALSE)):
            end = end_of(program(statement), steps=99)
            self.assertIn(end[0], ("fault", "stopped"))
            self.assertEqual(end_of(program(statement), steps=2), end)
            self.assertEqual(end_of(program(statement), steps=1), ("open", (0, 0)))

    def test_an_end_on_the_way(self):
        thing = program(("call", "x", "f", (TOP,)), others=(MORE,))
        self.assertEqual(run(thing, [], [], 2)[0], ("great", (0, 0)))
        self.assertEqual(points_of(run(thing, [], [], 2)[1]), [(0, 0), (1, 0)])
        thing = program(("call", "x", "f", (ZERO,)), others=(MORE,))
        self.assertEqual([run(thing, [], [], n)[0] for n in (1, 2, 3)],
            [("open", (0, 0)), ("open", (1, 0)), ("done", 0)])

    def test_each_number_of_steps(self):
        for thing in (LOOP, TWO):
            end, trace = run(thing, [], [], 99)
            for n in range(1, len(trace) + 3):
                expected = end if n >= len(trace) else ("open", trace[n - 1][0])
                self.assertEqual(run(thing, [], [], n), (expected, trace[:n]))


class Calls(unittest.TestCase):
    def test_trace_of_two_calls(self):
        end, trace = run(TWO, [], [], 9)
        self.assertEqual(end, ("done", 2))
        self.assertEqual(trace, [
            ((0, 0), ((0,), ())), ((1, 0), ((0,), ())), ((0, 1), ((1,), ())), ((1, 0), ((1,), ())),
            ((0, 2), ((2,), ())),
        ])

    def test_parameters(self):
        called = body(name="g", parameters=("q", "p"), result=("sub", ("mul", ("var", "q"), num(10)), ("var", "p")))
        thing = program(("call", "z", "g", (X, ("add", X, Y))), parameters=("x", "y"), result=("var", "z"),
            others=(called,))
        end, trace = run(thing, [3, 4], [], 9)
        self.assertEqual(end, ("done", 23))
        self.assertEqual(frames_at(trace, (1, 0)), [((3, 7), ())])
        self.assertEqual(frames_at(trace, (0, 1)), [((3, 4, 23), ())])

    def test_own_variables_and_arrays(self):
        called = body(
            ("set", "x", ("add", X, ("item", "a", ZERO))), ("put", "a", ZERO, num(7)), ("put", "b", ONE, X),
            ("set", "x", num(9)),
            name="g", arrays=(("a", 1), ("b", 2)), parameters=("n",), result=("add", X, ("var", "n")),
        )
        thing = program(
            ("set", "x", num(5)), ("put", "a", num(2), num(4)), ("call", "y", "g", (X,)), ("call", "y", "g", (Y,)),
            arrays=A3, result=("add", ("mul", X, num(100)), Y), others=(called,),
        )
        end, trace = run(thing, [], [], 99)
        self.assertEqual(end, ("done", 523))
        self.assertEqual(frames_at(trace, (1, 0)), [((5, 0), ((0,), (0, 0))), ((14, 0), ((0,), (0, 0)))])
        self.assertEqual(frames_at(trace, (0, 4))[0], ((5, 14), ((0, 0, 4),)))
        self.assertEqual(frames_at(trace, (0, 5))[0], ((5, 23), ((0, 0, 4),)))

    def test_a_call_of_itself(self):
        less = ("sub", ("var", "n"), ONE)
        factorial = body(("if", ("less", ZERO, ("var", "n")), (
            ("call", "x", "fact", (less,)), ("set", "x", ("mul", X, ("var", "n"))),
        ), (("set", "x", ONE),)), name="fact", parameters=("n",), result=X)
        thing = program(("call", "y", "fact", (("var", "n"),)), parameters=("n",), result=Y, others=(factorial,))
        self.assertEqual(end_of(thing, [10]), ("done", 3628800))
        self.assertEqual(end_of(thing, [20]), ("open", (1, 4)))
        self.assertEqual(end_of(thing, [20], (), 500), ("done", 2432902008176640000))
        end, trace = run(thing, [29], [], 999)
        self.assertEqual(end[0], "great")
        self.assertEqual(trace[-1][0][0], 1)
        # the innermost calls come back with their own frames
        self.assertEqual([numbers[0] for numbers, _ in frames_at(run(thing, [4], [], 99)[1], (1, 4))], [1, 2, 3, 4])

    def test_a_call_of_main(self):
        thing = (body(("if", ("less", ZERO, X), (("call", "y", "main", (("sub", X, ONE),)),
            ("set", "y", ("add", Y, X))), ()),
                      parameters=("x",), result=Y),)
        self.assertEqual(end_of(thing, [6]), ("done", 21))
        self.assertEqual(frames_at(run(thing, [2], [], 99)[1], (0, 0)), [((2, 0), ()), ((1, 0), ()), ((0, 0), ())])

    def test_calls_of_each_other(self):
        def half(name, other, base):
            return body(("if", ("equal", X, ZERO), (("set", "y", num(base)),),
                (("call", "y", other, (("sub", X, ONE),)),)),
                        name=name, parameters=("x",), result=Y)
        thing = program(("call", "y", "even", (X,)), parameters=("x",), result=Y,
                        others=(half("even", "odd", 1), half("odd", "even", 0)))
        self.assertEqual([end_of(thing, [n]) for n in range(6)], [("done", n % 2 == 0) for n in range(6)])

    def test_hundreds_of_calls_deep(self):
        deep = body(("if", ("less", ZERO, X), (("call", "y", "deep", (("sub", X, ONE),)),
            ("set", "y", ("add", Y, ONE))), ()),
                    name="deep", parameters=("x",), result=Y)
        thing = program(("call", "y", "deep", (X,)), parameters=("x",), result=Y, others=(deep,))
        self.assertEqual(end_of(thing, [333], (), 2000), ("open", (1, 6)))
        self.assertEqual(end_of(thing, [332], (), 2000), ("done", 332))
        self.assertEqual(end_of(thing, [4000], (), 30000), ("done", 4000))

    def test_a_call_that_never_comes_back(self):
        thing = (body(("call", "x", "main", ())),)
        end, trace = run(thing, [], [], 2000)
        self.assertEqual((end, len(trace)), (("open", (0, 0)), 2000))
        self.assertEqual(points_of(trace), [(0, 0)] * 2000)

    def test_a_variable_with_the_name_of_a_function(self):
        thing = program(("set", "f", num(5)), ("call", "f", "f", (("var", "f"),)), result=("var", "f"), others=(MORE,))
        self.assertEqual(end_of(thing), ("done", 6))


class Values(unittest.TestCase):
    def test_operations(self):
        for sign, operation in {
            "add": lambda a, b: a + b, "sub": lambda a, b: a - b, "mul": lambda a, b: a * b,
            "div": lambda a, b: a // b, "mod": lambda a, b: a % b,
        }.items():
            thing = program(result=(sign, X, Y), parameters=("x", "y"))
            for a in (-7, -6, -1, 0, 1, 6, 7, GREATEST, -GREATEST):
                for b in (-3, -1, 1, 2, 3, GREATEST, -GREATEST):
                    self.assertEqual(end_of(thing, [a, b]), ("done", operation(a, b)))

    def test_arrays(self):
        thing = program(
            ("put", "a", X, num(5)), ("put", "b", ZERO, ("add", ("item", "a", ONE), num(2))),
            ("put", "a", ONE, num(-3)),
            arrays=(("a", 3), ("b", 1)), parameters=("x",), result=("item", "b", ZERO),
        )
        for n, frame in ((0, ((0,), ((5, -3, 0), (2,)))), (1, ((1,), ((0, -3, 0), (7,)))),
            (2, ((2,), ((0, -3, 5), (2,))))):
            end, trace = run(thing, [n], [], 99)
            self.assertEqual(trace[-1][1], frame)
            self.assertEqual(end, ("done", frame[1][1][0]))

    def test_an_item_of_an_item(self):
        thing = program(("put", "a", num(2), ONE), ("put", "a", ONE, num(8)), arrays=A3,
                        result=("item", "a", ("item", "a", ("add", ONE, ONE))))
        self.assertEqual(end_of(thing), ("done", 8))


class FramesAndWitnesses(unittest.TestCase):
    def test_frames(self):
        trace = run(LOOP, [], [], 99)[1]
        self.assertEqual(frames_at(trace, (0, 4)), [((n,), ()) for n in (2, 4, 6, 8, 10)])
        self.assertEqual(frames_at(trace, (0, 3)), [((10,), ())])
        self.assertEqual(frames_at(trace, (0, 9)), [])
        self.assertEqual(frames_at(trace, (1, 0)), [])
        self.assertEqual(frames_at([], (0, 0)), [])
        trace = run(program(("while", TRUE, ())), [], [], 6)[1]
        self.assertEqual(frames_at(trace, (0, 1)), [((), ())] * 3)

    def test_witness(self):
        tries = [([3], []), ([0], []), ([0], [1])]
        self.assertEqual(witness(TINY, tries, (0, 0), "division", 1), 1)
        self.assertIsNone(witness(TINY, [], (0, 0), "division", 9))
        self.assertIsNone(witness(TINY, tries[:1], (0, 0), "division", 9))
        self.assertIsNone(witness(TINY, tries, (0, 0), "index", 9))
        self.assertIsNone(witness(TINY, tries, (0, 1), "division", 9))
        self.assertIsNone(witness(TINY, tries, (1, 0), "division", 9))

    def test_the_first_of_several(self):
        thing = program(("input", "y", None, None), ("check", ("less", X, Y)), parameters=("x",))
        tries = [([5], []), ([5], [6]), ([5], [5]), ([5], [4])]
        self.assertEqual(witness(thing, tries, (0, 3), "check", 9), 2)
        self.assertEqual(witness(thing, tries[3:], (0, 3), "check", 9), 0)

    def test_too_few_steps(self):
        thing = program(("set", "x", ONE), ("check", FALSE))
        self.assertIsNone(witness(thing, [([], [])], (0, 3), "check", 2))
        self.assertEqual(witness(thing, [([], [])], (0, 3), "check", 3), 0)

    def test_other_ends_are_no_witness(self):
        thing = program(("assume", FALSE))
        self.assertIsNone(witness(thing, [([], [])], (0, 2), "check", 9))


class AllPrograms(unittest.TestCase):
    def draws(self):
        chance = random.Random(7)
        for thing in made(400):
            inputs = [chance.randint(-3, 5) for _ in range(chance.randint(0, 12))]
            yield thing, inputs

    def test_ends_are_those_of_another_way(self):
        kinds = {}
        for thing, inputs in self.draws():
            end, trace = run(thing, [], inputs, 1500)
            if end[0] == "open":
                self.assertEqual(len(trace), 1500)
            elif end[0] == "done":
                self.assertEqual(walked(thing, [], inputs), end)
            else:
                self.assertEqual(end[-1], trace[-1][0])
                self.assertEqual(walked(thing, [], inputs), end[:-1])
            kind = end[:2] if end[0] == "fault" else end[:1]
            kinds[kind] = kinds.get(kind, 0) + 1
        expected = {("done",), ("stopped",), ("inputs",), ("open",)}
        expected |= {("fault", "division"), ("fault", "index"), ("fault", "check")}
        self.assertLessEqual(expected, set(kinds))

    def test_traces_go_along_edges(self):
        for thing, inputs in self.draws():
            rows = [edges(function) for function in thing]
            names = [function[0] for function in thing]
            trace = run(thing, [], inputs, 300)[1]
            waiting = []
            for ((f, k), frame), ((g, q), after) in zip(trace, trace[1:]):
                ways = [(action, stop) for start, action, stop in rows[f] if start == k]
                if not ways:
                    back, stop, kept = waiting.pop()
                    self.assertEqual((g, q), (back, stop))
                    self.assertLessEqual(sum(a != b for a, b in zip(kept[0], after[0])), 1)
                    self.assertEqual(kept[1], after[1])
                    self.assertEqual(k, exit_of(thing[f]))
                elif ways[0][0][0] == "call":
                    waiting.append((f, ways[0][1], frame))
                    self.assertEqual((g, q), (names.index(ways[0][0][2]), 0))
                else:
                    self.assertEqual(f, g)
                    self.assertIn(q, [stop for _, stop in ways])

    def test_lists_names_and_unchanged_arguments(self):
        for thing, inputs in list(self.draws())[:60]:
            lists, row = as_lists(thing), tuple(inputs)
            end, trace = run(steps=200, inputs=row, numbers=(), program=lists)
            self.assertEqual((end, trace), run(thing, [], inputs, 200))
            self.assertEqual(lists, as_lists(thing))
            self.assertIs(type(trace), list)
            self.assertFalse(has_list(end) or has_list(tuple(trace)))
            point = trace[-1][0]
            found = frames_at(point=list(point), trace=as_lists(trace))
            self.assertEqual(found, frames_at(trace, point))
            self.assertFalse(has_list(tuple(found)))

    def test_witness_with_lists_and_names(self):
        tries = [[[3], []], [(0,), ()]]
        found = witness(steps=9, kind="division", point=[0, 0], tries=tries, program=as_lists(TINY))
        self.assertEqual(found, 1)
        self.assertEqual(tries, [[[3], []], [(0,), ()]])

    def test_changed_results_change_nothing(self):
        for call in (lambda: run(LOOP, [], [], 9)[1], lambda: frames_at(run(LOOP, [], [], 9)[1], (0, 1))):
            first = call()
            kept = list(first)
            first.clear()
            self.assertEqual(call(), kept)
        trace = run(LOOP, [], [], 9)[1]
        kept = list(trace)
        frames_at(trace, (0, 1)).clear()
        self.assertEqual(trace, kept)

    def test_a_changed_argument_does_not_change_a_result(self):
        lists, inputs = as_lists(LOOP), [1, 2]
        end, trace = run(lists, [], inputs, 99)
        kept = list(trace)
        lists[0][3][0][2][0][2][2][1] = 77
        inputs.append(3)
        self.assertEqual((end, trace), (("done", 10), kept))


if __name__ == "__main__":
    unittest.main()
