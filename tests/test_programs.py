"""is_program and variables ([4])."""

import copy
import unittest

from shadowruns.programs import is_program, variables
from tests.samples import (
    ATOM, LOOP, MORE, ONE, TINY, TWO, X, Y, ZERO, as_lists, body, levels, made, program,
)

A3 = (("a", 3),)
RESERVED = "function array set put input if else while call check assume end return".split()
NOT_NAMES = ["", "abcdefghi", "A", "aB", "a1", "1", "a_", "_a", " ", "a ", " a", "a\n", "\u00e9", "\u0430",
             "a-b", None, 0, True, (), ("a",), ["a"], ("a", "b")] + RESERVED
NOT_INTEGERS = [True, False, None, "1", "", (), (1,), [1], ("num", 1)]
NOT_EXPRESSIONS = [
    None, 0, True, "", "num", "x", (), ("num",), ("num", 1, 1), ("var",), ("var", "x", "x"), ("item", "a"),
    ("item", ZERO), ("item", "a", ZERO, ZERO), ("add", ONE), ("add", ONE, ONE, ONE), ("neg", ONE),
    ("pow", ONE, ONE), ("Num", 1), ("num", "1"), ("var", 1), ("add", 1, 2), (("num", 1),), (("num",), 1),
    ("less", ONE, ONE), ["num", 1], ["add", ONE, ONE], (None, 1), (0, 1), ([], 1), ("item", ("var", "a"), ZERO),
    ("set", "x", ONE), ("num", 1, None), ("add", ONE, ATOM), ("", ONE, ONE), (("add",), ONE, ONE),
]
NOT_CONDITIONS = [
    None, True, False, 1, "", (), ONE, X, ("less",), ("less", ONE), ("less", ONE, ONE, ONE), ("equal", ONE),
    ("equal", ONE, ONE, ONE), ("less", 1, 2), ("less", ATOM, ONE), ("not",), ("not", ONE), ("not", ATOM, ATOM),
    ("not", True), ("and", ATOM), ("and", ATOM, ATOM, ATOM), ("and", ATOM, ONE), ("or", ATOM), ("or", ONE, ATOM),
    ("or", ATOM, ATOM, ATOM), ("more", ONE, ONE), ["less", ONE, ONE], ("not", ["less", ONE, ONE]), (ATOM,),
    ("add", ONE, ONE), ("And", ATOM, ATOM), ("xor", ATOM, ATOM),
]
NOT_STATEMENTS = [
    None, True, 0, "", "set", (), ("set",), ("set", "x"), ("set", "x", ONE, ONE), ("set", X, ONE), ("set", "x", 1),
    ("set", "x", ATOM), ("put", "a", ZERO), ("put", "a", ZERO, ZERO, ZERO), ("put", "a", 0, ZERO),
    ("put", "a", ZERO, 0), ("put", ZERO, "a", ZERO), ("input", "x"), ("input", "x", 1), ("input", "x", 1, 2, 3),
    ("input", X, 1, 2), ("input", "x", ONE, 2), ("input", "x", 1, ONE), ("input", "x", 2, 1), ("input", "x", 0, -1),
    ("if", ATOM, ()), ("if", ATOM, (), (), ()), ("if", ONE, (), ()), ("if", ATOM, None, ()), ("if", ATOM, (), None),
    ("if", ATOM, ("set", "x", ONE), ()), ("if", ATOM, (), ("set", "x", ONE)), ("while", ATOM), ("while", ATOM, (), ()),
    ("while", ONE, ()), ("while", ATOM, ("set", "x", ONE)), ("while", (), ()), ("call", "x", "f"),
    ("call", "x", "f", (ONE,), ()), ("call", "x", "f", ONE), ("call", "x", "f", None), ("call", None, "f", (ONE,)),
    ("call", "x", ("f",), (ONE,)), ("call", "x", "f", (1,)), ("call", "x", "f", (ATOM,)), ("check",), ("check", ONE),
    ("check", ATOM, ATOM), ("assume",), ("assume", ONE), ("assume", ATOM, ()), ("skip",), ("return", ONE), ONE, ATOM,
    ["set", "x", ONE], (("set", "x", ONE),), ("stop", ATOM), ("within", "a", ZERO), ("nonzero", ONE),
]


def nested(wrap, core, many):
    """core with wrap around it, many times."""
    thing = core
    for _ in range(many):
        thing = wrap(thing)
    return thing


class Expected(unittest.TestCase):
    def yes(self, thing):
        self.assertIs(is_program(thing), True, thing)

    def no(self, thing):
        self.assertIs(is_program(thing), False, thing)


class Programs(Expected):
    def test_the_programs_of_the_document(self):
        for thing in (TINY, LOOP, TWO, (MORE,)):
            self.yes(thing)

    def test_each_expression(self):
        for expression in (
            ("num", 0), ("num", -5), ("num", 10 ** 50), ("num", -10 ** 50), X, ("item", "a", ZERO),
            ("item", "a", ("item", "a", X)), ("add", X, Y), ("sub", X, Y), ("mul", X, Y), ("div", X, Y),
            ("mod", X, Y), ("mod", ("div", X, ("item", "a", X)), ("sub", Y, ONE)), ("div", ONE, ZERO),
        ):
            with self.subTest(expression):
                self.yes(program(result=expression, arrays=A3))
                self.yes(program(("set", "x", expression), arrays=A3))

    def test_each_condition(self):
        for condition in (
            ATOM, ("equal", X, ("item", "a", ONE)), ("not", ATOM), ("and", ATOM, ATOM), ("or", ATOM, ATOM),
            ("not", ("not", ("and", ("or", ATOM, ("equal", X, Y)), ("not", ATOM)))),
        ):
            with self.subTest(condition):
                self.yes(program(("check", condition), arrays=A3))
                self.yes(program(("while", condition, ()), arrays=A3))

    def test_each_statement(self):
        for statement in (
            ("set", "x", ONE), ("put", "a", ZERO, X), ("input", "x", None, None), ("input", "x", 0, None),
            ("input", "x", None, -7), ("input", "x", 3, 3), ("input", "x", -10 ** 40, 10 ** 40), ("if", ATOM, (), ()),
            ("if", ATOM, (("set", "x", ONE),), (("check", ATOM), ("assume", ATOM))), ("while", ATOM, ()),
            ("while", ATOM, (("while", ATOM, (("set", "x", X),)),)), ("call", "x", "f", (ONE,)),
            ("call", "y", "main", ()), ("check", ATOM), ("assume", ATOM),
        ):
            with self.subTest(statement):
                self.yes(program(statement, arrays=A3, others=(MORE,)))

    def test_programs_made_by_chance(self):
        for thing in made(150):
            self.yes(thing)

    def test_names_that_look_reserved(self):
        for name in ("a", "z", "abcdefgh", "num", "var", "item", "add", "div", "less", "not", "and", "or", "skip",
                     "ends", "els", "returned", "sets", "main", "stop", "fail"):
            with self.subTest(name):
                self.yes(program(("set", name, ("var", name)), parameters=(name,)))
                self.yes((body(name=name),))
                self.yes(program(arrays=((name, 1),), result=("item", name, ZERO)))

    def test_shared_names(self):
        self.yes(program(("set", "f", ("var", "main")), others=(MORE,)))
        self.yes(program(("call", "f", "f", (("var", "f"),)), others=(MORE,)))
        self.yes(program(("put", "f", ZERO, ZERO), arrays=(("f", 1),), others=(MORE,)))
        self.yes(program(arrays=A3, others=(body(name="g", arrays=A3), body(name="h", parameters=("a",)))))

    def test_a_function_may_call_itself_and_main(self):
        self.yes((body(("call", "x", "main", (X,)), parameters=("x",)),))
        self.yes(program(others=(body(("call", "x", "main", ()), name="f"),)))

    def test_limits_are_not_looked_at(self):
        many = tuple(body(name="f" + letter) for letter in "abcdefghij")
        self.yes(many)
        self.yes(program(arrays=(("a", 10 ** 30), ("b", 1), ("c", 13), ("d", 5), ("e", 1))))
        self.yes(program(parameters=tuple("abcdefghijklm")))
        self.yes(program(*[("set", "x", ("num", 10 ** 80))] * 500))
        self.yes(program(result=nested(lambda e: ("add", e, ONE), X, 20)))
        self.yes(program(("check", nested(lambda c: ("not", c), ATOM, 20))))
        self.yes(program(nested(lambda s: ("while", ATOM, (s,)), ("set", "x", X), 15)))


class WrongNames(Expected):
    def test_wrong_names_everywhere(self):
        for name in NOT_NAMES:
            with self.subTest(repr(name)):
                self.no((body(name=name),))
                self.no(program(parameters=(name,)))
                self.no(program(parameters=("x", name)))
                self.no(program(arrays=((name, 3),)))
                self.no(program(result=("var", name)))
                self.no(program(result=("item", name, ZERO), arrays=A3))
                self.no(program(("set", name, ONE)))
                self.no(program(("input", name, 0, 1)))
                self.no(program(("put", name, ZERO, ZERO), arrays=A3))
                self.no(program(("call", name, "f", (ONE,)), others=(MORE,)))
                self.no(program(("call", "x", name, (ONE,)), others=(MORE,)))

    def test_a_wrong_name_is_none_even_if_it_is_declared(self):
        for name in ("", "abcdefghi", "Ab", "while"):
            with self.subTest(name):
                self.no(program(("put", name, ZERO, ZERO), arrays=((name, 3),)))
                self.no(program(("call", "x", name, ()), others=(body(name=name),)))

    def test_doubled_names(self):
        self.no(program(parameters=("x", "x")))
        self.no(program(parameters=("x", "y", "x")))
        self.no(program(arrays=(("a", 3), ("a", 3))))
        self.no(program(arrays=(("a", 3), ("b", 1), ("a", 4))))
        self.no((MORE, MORE))
        self.no((MORE, body(), body(name="f")))

    def test_an_array_with_the_name_of_a_variable(self):
        self.no(program(parameters=("a",), arrays=A3))
        self.no(program(result=("var", "a"), arrays=A3))
        self.no(program(("set", "a", ONE), arrays=A3))
        self.no(program(("input", "a", None, None), arrays=A3))
        self.no(program(("call", "a", "f", (ONE,)), arrays=A3, others=(MORE,)))
        self.no(program(("call", "x", "f", (("var", "a"),)), arrays=A3, others=(MORE,)))
        self.no(program(("put", "a", ("var", "a"), ONE), arrays=A3))
        self.no(program(("put", "a", ONE, ("var", "a")), arrays=A3))
        self.no(program(("while", ATOM, (("if", ATOM, (), (("set", "a", ONE),)),)), arrays=A3))
        self.no(program(("assume", ("not", ("or", ATOM, ("less", ("var", "a"), X)))), arrays=A3))

    def test_an_array_that_is_not_there(self):
        self.no(program(result=("item", "a", ZERO)))
        self.no(program(result=("item", "b", ZERO), arrays=A3))
        self.no(program(("put", "b", ZERO, ZERO), arrays=A3))
        self.no(program(("set", "x", ("add", ONE, ("item", "a", ("item", "b", ONE)))), arrays=A3))
        self.no(program(("check", ("and", ATOM, ("equal", X, ("item", "b", ONE)))), arrays=A3))
        self.no(program(("if", ATOM, (("while", ATOM, (("put", "b", ZERO, ZERO),)),), ()), arrays=A3))
        self.no(program(("call", "x", "f", (("item", "b", ZERO),)), arrays=A3, others=(MORE,)))
        self.no(program(result=("item", "a", ZERO), others=(body(name="g", arrays=A3),)))


class WrongIntegers(Expected):
    def test_wrong_numbers(self):
        for thing in NOT_INTEGERS:
            with self.subTest(repr(thing)):
                self.no(program(result=("num", thing)))
                self.no(program(arrays=(("a", thing),)))
                if thing is not None:
                    self.no(program(("input", "x", thing, None)))
                    self.no(program(("input", "x", None, thing)))
                    self.no(program(("input", "x", thing, 5)))
                    self.no(program(("input", "x", -5, thing)))

    def test_lengths_below_one(self):
        for length in (0, -1, -10 ** 30):
            self.no(program(arrays=(("a", length),)))
        self.yes(program(arrays=(("a", 1),)))

    def test_low_above_high(self):
        self.no(program(("input", "x", 1, 0)))
        self.no(program(("input", "x", -1, -2)))
        self.no(program(("if", ATOM, (("input", "x", 10 ** 30 + 1, 10 ** 30),), ())))


class WrongForms(Expected):
    def test_values_of_other_kinds(self):
        for thing in (None, True, False, 0, 1, -1, 10 ** 100, "", "main", "function main\nreturn 0", [], (), [[]], ((),),
                      ([],), [()], (((),),), (None,), ("main",), (1, 2, 3), [TINY], (TINY,), [["main", [], [], []]],
                      TINY[0], list(TINY), MORE, (MORE, None), (None, MORE), (MORE, ()), (MORE, [])):
            with self.subTest(repr(thing)):
                self.no(thing)

    def test_an_empty_program(self):
        self.no(())

    def test_functions_of_another_form(self):
        good = ("main", (), (), (), ZERO)
        self.yes((good,))
        for at in range(5):
            self.no((good[:at] + good[at + 1:],))
            for thing in (None, 1, True, "X", ZERO + (1,), ["num", 0], [], "main function"):
                with self.subTest(at=at, thing=thing):
                    self.no((good[:at] + (thing,) + good[at + 1:],))
        self.no((good + ((),),))
        self.no((("main", (), (), ZERO, ()),))

    def test_arrays_of_another_form(self):
        for array in (None, "a", 3, (), ("a",), ("a", 3, 3), (3, "a"), ["a", 3], (("a", 3),), ("a", ONE)):
            with self.subTest(repr(array)):
                self.no(program(arrays=(array,)))

    def test_wrong_expressions_everywhere(self):
        for thing in NOT_EXPRESSIONS:
            with self.subTest(repr(thing)):
                self.no(program(result=thing, arrays=A3))
                self.no(program(result=("item", "a", thing), arrays=A3))
                for sign in ("add", "sub", "mul", "div", "mod"):
                    self.no(program(result=(sign, thing, ONE), arrays=A3))
                    self.no(program(result=(sign, ONE, thing), arrays=A3))
                for sign in ("less", "equal"):
                    self.no(program(("check", (sign, thing, ONE)), arrays=A3))
                    self.no(program(("check", (sign, ONE, thing)), arrays=A3))
                self.no(program(("set", "x", thing), arrays=A3))
                self.no(program(("put", "a", thing, ONE), arrays=A3))
                self.no(program(("put", "a", ONE, thing), arrays=A3))
                self.no(program(("call", "x", "f", (thing,)), arrays=A3, others=(MORE,)))

    def test_wrong_conditions_everywhere(self):
        for thing in NOT_CONDITIONS:
            with self.subTest(repr(thing)):
                for sign in ("check", "assume"):
                    self.no(program((sign, thing)))
                self.no(program(("if", thing, (), ())))
                self.no(program(("while", thing, ())))
                self.no(program(("check", ("not", thing))))
                for sign in ("and", "or"):
                    self.no(program(("check", (sign, thing, ATOM))))
                    self.no(program(("check", (sign, ATOM, thing))))

    def test_wrong_statements_everywhere(self):
        for thing in NOT_STATEMENTS:
            with self.subTest(repr(thing)):
                self.no(program(thing, arrays=A3, others=(MORE,)))
                self.no(program(("set", "x", ONE), thing, arrays=A3, others=(MORE,)))
                self.no(program(("if", ATOM, (thing,), ()), arrays=A3, others=(MORE,)))
                self.no(program(("if", ATOM, (), (thing,)), arrays=A3, others=(MORE,)))
                self.no(program(("while", ATOM, (thing,)), arrays=A3, others=(MORE,)))
                self.no((MORE, body(thing, arrays=A3, name="g")))

    def test_a_list_for_a_tuple_at_any_place(self):
        whole = program(
            ("set", "x", ("add", ONE, ("item", "a", X))), ("put", "a", ZERO, X), ("input", "x", None, 4),
            ("if", ("not", ATOM), (("check", ("and", ATOM, ("or", ATOM, ATOM))),), (("assume", ATOM),)),
            ("while", ("equal", X, Y), (("call", "x", "f", (ONE,)),)),
            arrays=A3, parameters=("x",), others=(MORE,),
        )
        self.yes(whole)
        changed = list(self.with_one_list(whole))
        self.assertGreater(len(changed), 50)
        for thing in changed:
            self.no(thing)

    def with_one_list(self, thing):
        if isinstance(thing, tuple):
            yield list(thing)
            for at, part in enumerate(thing):
                for other in self.with_one_list(part):
                    yield thing[:at] + (other,) + thing[at + 1:]

    def test_no_made_program_is_one_in_lists(self):
        for thing in made(30):
            self.no(as_lists(thing))


class WrongCalls(Expected):
    def test_a_function_that_is_not_there(self):
        self.no(program(("call", "x", "g", (ONE,)), others=(MORE,)))
        self.no(program(("call", "x", "x", ())))
        self.no(program(("if", ATOM, (), (("while", ATOM, (("call", "x", "g", (ONE,)),)),)), others=(MORE,)))
        self.no((body(), body(("call", "x", "g", ()), name="f")))

    def test_too_many_or_too_few_expressions(self):
        for many in (0, 2, 3):
            self.no(program(("call", "x", "f", (ONE,) * many), others=(MORE,)))
            self.no(program(("while", ATOM, (("call", "x", "f", (ONE,) * many),)), others=(MORE,)))
        self.no(program(("call", "x", "main", (ONE,))))
        self.no((body(("call", "x", "main", ()), parameters=("x",)),))
        self.no((body(), body(("call", "x", "main", (ONE,)), name="g")))


class Depth(Expected):
    def test_things_nested_forty_levels_deep(self):
        self.yes_at_forty(lambda many: program(result=nested(lambda e: ("add", e, ONE), ONE, many)))
        self.yes_at_forty(lambda many: program(result=nested(lambda e: ("item", "a", e), ONE, many), arrays=A3))
        self.yes_at_forty(lambda many: program(("assume", nested(lambda c: ("not", c), ATOM, many))))
        self.yes_at_forty(lambda many: program(("assume", nested(lambda c: ("or", ATOM, c), ATOM, many))))
        for many in range(20):
            thing = program(nested(lambda s: ("if", ATOM, (), (s,)), ("input", "x", 0, 0), many))
            if levels(thing) in (39, 40):
                self.yes(thing)

    def yes_at_forty(self, make):
        many = [k for k in range(41) if levels(make(k)) == 40]
        self.assertEqual(len(many), 1)
        self.yes(make(many[0]))

    def test_things_that_are_no_programs(self):
        self.no(nested(lambda thing: (thing,), None, 40))
        self.no(nested(lambda thing: [thing], "x", 40))
        self.no(nested(lambda thing: [thing], (), 39))
        self.no(program(result=nested(lambda thing: ("num", thing), 1, 37)))
        self.no(program(result=nested(lambda e: ("add", e, ONE), ["num", 1], 36)))
        self.no(program(("check", nested(lambda c: ("not", c), ("less", ONE, True), 34))))
        self.no((body(name=nested(lambda thing: (thing,), "f", 38)),))


class ArgumentOfIsProgram(Expected):
    def test_by_name(self):
        self.assertIs(is_program(thing=TWO), True)
        self.assertIs(is_program(thing=None), False)

    def test_it_is_left_as_it_is(self):
        for thing in ([list(MORE)], (["f", ["n"], [], [], ["num", 1]],), [TINY, [1, [2]]], [[], [[]]]):
            kept = copy.deepcopy(thing)
            self.no(thing)
            self.assertEqual(thing, kept)


class Variables(unittest.TestCase):
    def test_of_the_document(self):
        self.assertEqual(variables(TINY[0]), ("n", "x"))
        self.assertEqual(variables(LOOP[0]), ("x",))
        self.assertEqual(variables(MORE), ("n",))

    def test_none(self):
        self.assertEqual(variables(body()), ())
        self.assertIs(type(variables(body())), tuple)

    def test_parameters_stay_in_their_order_and_others_ascend(self):
        function = body(("set", "d", ("var", "b")), ("set", "a", ("var", "z")), parameters=("z", "c", "m"))
        self.assertEqual(variables(function), ("z", "c", "m", "a", "b", "d"))

    def test_a_parameter_that_is_not_used(self):
        self.assertEqual(variables(body(parameters=("z", "y"), result=("var", "a"))), ("z", "y", "a"))

    def test_no_duplicates(self):
        function = body(("set", "x", X), ("set", "x", X), ("input", "x", 0, 1), result=("add", X, Y))
        self.assertEqual(variables(function), ("x", "y"))

    def test_names_that_stand_only_once(self):
        for statement, expected in (
            (("set", "q", ONE), ("q",)),
            (("input", "q", None, None), ("q",)),
            (("call", "q", "f", ()), ("q",)),
            (("call", "q", "f", (("var", "r"), ("mul", ONE, ("var", "b")))), ("b", "q", "r")),
            (("put", "arr", ("var", "q"), ONE), ("q",)),
            (("put", "arr", ONE, ("mod", ONE, ("var", "q"))), ("q",)),
            (("set", "x", ("item", "arr", ("sub", ("var", "q"), ONE))), ("q", "x")),
            (("set", "x", ("div", ("var", "c"), ("item", "arr", ("var", "b")))), ("b", "c", "x")),
            (("check", ("less", ("var", "q"), ONE)), ("q",)),
            (("check", ("less", ONE, ("var", "q"))), ("q",)),
            (("assume", ("equal", ONE, ("add", ("var", "q"), ("var", "p")))), ("p", "q")),
            (("check", ("not", ("and", ("or", ("equal", ONE, ("var", "d")), ("less", ONE, ("var", "c"))),
                                ("equal", ("var", "b"), ONE)))), ("b", "c", "d")),
            (("if", ("less", ("var", "c"), ONE), (("set", "b", ONE),), (("set", "a", ONE),)), ("a", "b", "c")),
            (("while", ("less", ("var", "c"), ONE), (("while", ATOM, (("set", "b", ONE),)),)), ("b", "c", "x", "y")),
            (("if", ("equal", ONE, ONE), (("if", ("equal", ONE, ONE), (), (("input", "k", 0, 1),)),), ()), ("k",)),
        ):
            with self.subTest(statement):
                self.assertEqual(variables(body(statement, arrays=(("arr", 2),))), expected)

    def test_only_in_the_result(self):
        self.assertEqual(variables(body(result=("div", ("item", "a", Y), X), arrays=A3)), ("x", "y"))

    def test_arrays_and_functions_are_none(self):
        function = body(("call", "x", "g", ()), ("put", "a", ZERO, ZERO), arrays=(("a", 2), ("b", 1)))
        self.assertEqual(variables(function), ("x",))

    def test_a_variable_with_the_name_of_a_function(self):
        self.assertEqual(variables(body(("call", "g", "g", ()), name="main")), ("g",))
        self.assertEqual(variables(body(("set", "x", ("var", "main")))), ("main", "x"))

    def test_lists_and_names_and_unchanged_arguments(self):
        for function in [TINY[0], LOOP[0], *[function for thing in made(40) for function in thing]]:
            lists = as_lists(function)
            self.assertEqual(variables(function=lists), variables(function))
            self.assertIs(type(variables(lists)), tuple)
            self.assertEqual(lists, as_lists(function))


if __name__ == "__main__":
    unittest.main()
