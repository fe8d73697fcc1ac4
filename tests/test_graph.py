"""points_many, edges and exit_of ([5])."""

import unittest

from shadowruns.graph import edges, exit_of, points_many
from tests.samples import ATOM, LOOP, MORE, ONE, SKIP, TINY, TWO, X, Y, ZERO, as_lists, body, has_list, made

OTHER = ("equal", X, ONE)
THIRD = ("less", ONE, Y)
WHEN, UNLESS = ("when", ATOM), ("unless", ATOM)
WHEN2, UNLESS2 = ("when", OTHER), ("unless", OTHER)
WHEN3, UNLESS3 = ("when", THIRD), ("unless", THIRD)
FAIL, STOP = ("fail",), ("stop",)
SET, SET2 = ("set", "x", ONE), ("set", "y", ZERO)


def within(index):
    return ("within", "a", index)


def nonzero(divisor):
    return ("nonzero", divisor)


class Laid(unittest.TestCase):
    def laid(self, function, many, end, rows):
        self.assertEqual(edges(function), rows)
        self.assertEqual(points_many(function), many)
        self.assertEqual(exit_of(function), end)

    def conditioned(self, condition, rows, true, false):
        """rows and the two points of a condition, in a check and in an assume."""
        many = 1 + max(row[2] for row in rows)
        self.laid(body(("check", condition)), many, true, rows + [(false, FAIL, true)])
        self.laid(body(("assume", condition)), many, true, rows + [(false, STOP, true)])


class Examples(Laid):
    def test_tiny(self):
        self.laid(TINY[0], 3, 2, [(0, nonzero(("var", "n")), 1), (1, TINY[0][3][0], 2)])

    def test_loop(self):
        atom = ("less", X, ("num", 10))
        step = ("set", "x", ("add", X, ("num", 2)))
        self.laid(LOOP[0], 5, 3, [
            (0, SKIP, 1), (1, ("when", atom), 2), (1, ("unless", atom), 3), (2, step, 4), (4, SKIP, 1),
        ])

    def test_two(self):
        call = ("call", "x", "f", (X,))
        self.laid(TWO[0], 3, 2, [(0, call, 1), (1, call, 2)])
        self.laid(TWO[1], 1, 0, [])


class Statements(Laid):
    def test_empty_body(self):
        self.laid(body(), 1, 0, [])

    def test_set(self):
        self.laid(body(SET), 2, 1, [(0, SET, 1)])
        self.laid(body(SET, SET2, SET), 4, 3, [(0, SET, 1), (1, SET2, 2), (2, SET, 3)])

    def test_set_with_guards(self):
        statement = ("set", "x", ("add", ("div", X, Y), ("item", "a", X)))
        self.laid(body(statement), 4, 3, [(0, nonzero(Y), 1), (1, within(X), 2), (2, statement, 3)])

    def test_put(self):
        statement = ("put", "a", X, Y)
        self.laid(body(statement), 3, 2, [(0, within(X), 1), (1, statement, 2)])

    def test_put_with_guards(self):
        index, worth = ("mod", ONE, X), ("item", "a", Y)
        statement = ("put", "a", index, worth)
        self.laid(body(statement), 5, 4, [
            (0, nonzero(X), 1), (1, within(Y), 2), (2, within(index), 3), (3, statement, 4),
        ])

    def test_input(self):
        statement = ("input", "x", None, 3)
        self.laid(body(statement), 2, 1, [(0, statement, 1)])

    def test_call(self):
        statement = ("call", "x", "g", ())
        self.laid(body(statement), 2, 1, [(0, statement, 1)])

    def test_call_with_guards(self):
        statement = ("call", "x", "g", (("div", ONE, Y), X, ("item", "a", X)))
        self.laid(body(statement), 4, 3, [(0, nonzero(Y), 1), (1, within(X), 2), (2, statement, 3)])

    def test_if(self):
        self.laid(body(("if", ATOM, (SET,), (SET2,))), 7, 6, [
            (0, SKIP, 1), (1, WHEN, 2), (1, UNLESS, 3), (2, SET, 4), (3, SET2, 5), (4, SKIP, 6), (5, SKIP, 6),
        ])

    def test_if_with_empty_blocks(self):
        self.laid(body(("if", ATOM, (), ())), 5, 4, [
            (0, SKIP, 1), (1, WHEN, 2), (1, UNLESS, 3), (2, SKIP, 4), (3, SKIP, 4),
        ])
        self.laid(body(("if", ATOM, (), (SET,))), 6, 5, [
            (0, SKIP, 1), (1, WHEN, 2), (1, UNLESS, 3), (3, SET, 4), (2, SKIP, 5), (4, SKIP, 5),
        ])

    def test_if_not(self):
        self.laid(body(("if", ("not", ATOM), (SET,), ())), 6, 5, [
            (0, SKIP, 1), (1, WHEN, 2), (1, UNLESS, 3), (3, SET, 4), (4, SKIP, 5), (2, SKIP, 5),
        ])

    def test_while(self):
        self.laid(body(("while", ATOM, (SET, SET2)), SET), 7, 6, [
            (0, SKIP, 1), (1, WHEN, 2), (1, UNLESS, 3), (2, SET, 4), (4, SET2, 5), (5, SKIP, 1), (3, SET, 6),
        ])

    def test_while_with_an_empty_block(self):
        self.laid(body(("while", ATOM, ())), 4, 3, [(0, SKIP, 1), (1, WHEN, 2), (1, UNLESS, 3), (2, SKIP, 1)])

    def test_while_with_guards(self):
        atom = ("less", ("div", X, Y), ONE)
        self.laid(body(("while", atom, ())), 5, 4, [
            (0, SKIP, 1), (1, nonzero(Y), 2), (2, ("when", atom), 3), (2, ("unless", atom), 4), (3, SKIP, 1),
        ])

    def test_while_not(self):
        self.laid(body(("while", ("not", ATOM), (SET,))), 5, 2, [
            (0, SKIP, 1), (1, WHEN, 2), (1, UNLESS, 3), (3, SET, 4), (4, SKIP, 1),
        ])

    def test_check_and_assume(self):
        rows = [(0, WHEN, 1), (0, UNLESS, 2)]
        self.laid(body(("check", ATOM)), 3, 1, rows + [(2, FAIL, 1)])
        self.laid(body(("assume", ATOM)), 3, 1, rows + [(2, STOP, 1)])
        self.laid(body(("assume", ATOM), SET), 4, 3, rows + [(2, STOP, 1), (1, SET, 3)])

    def test_nested_statements(self):
        inner = ("if", OTHER, (SET,), (("check", THIRD),))
        self.laid(body(("while", ATOM, (inner, SET2))), 12, 3, [
            (0, SKIP, 1), (1, WHEN, 2), (1, UNLESS, 3),
            (2, SKIP, 4), (4, WHEN2, 5), (4, UNLESS2, 6), (5, SET, 7),
            (6, WHEN3, 8), (6, UNLESS3, 9), (9, FAIL, 8), (7, SKIP, 10), (8, SKIP, 10),
            (10, SET2, 11), (11, SKIP, 1),
        ])

    def test_loops_in_each_other(self):
        self.laid(body(("while", ATOM, (("while", OTHER, (SET,)),))), 8, 3, [
            (0, SKIP, 1), (1, WHEN, 2), (1, UNLESS, 3), (2, SKIP, 4), (4, WHEN2, 5), (4, UNLESS2, 6),
            (5, SET, 7), (7, SKIP, 4), (6, SKIP, 1),
        ])


class Conditions(Laid):
    def test_atoms(self):
        self.conditioned(ATOM, [(0, WHEN, 1), (0, UNLESS, 2)], 1, 2)
        self.conditioned(OTHER, [(0, WHEN2, 1), (0, UNLESS2, 2)], 1, 2)

    def test_atom_with_guards(self):
        atom = ("equal", ("item", "a", X), ("mod", X, Y))
        self.conditioned(atom, [
            (0, within(X), 1), (1, nonzero(Y), 2), (2, ("when", atom), 3), (2, ("unless", atom), 4),
        ], 3, 4)

    def test_not(self):
        self.conditioned(("not", ATOM), [(0, WHEN, 1), (0, UNLESS, 2)], 2, 1)
        self.conditioned(("not", ("not", ATOM)), [(0, WHEN, 1), (0, UNLESS, 2)], 1, 2)

    def test_and(self):
        self.conditioned(("and", ATOM, OTHER), [
            (0, WHEN, 1), (0, UNLESS, 2), (1, WHEN2, 3), (1, UNLESS2, 4), (2, SKIP, 5), (4, SKIP, 5),
        ], 3, 5)

    def test_or(self):
        self.conditioned(("or", ATOM, OTHER), [
            (0, WHEN, 1), (0, UNLESS, 2), (2, WHEN2, 3), (2, UNLESS2, 4), (1, SKIP, 5), (3, SKIP, 5),
        ], 5, 4)

    def test_guards_of_the_second_condition(self):
        atom = ("less", ("div", X, Y), ONE)
        self.conditioned(("and", ATOM, atom), [
            (0, WHEN, 1), (0, UNLESS, 2), (1, nonzero(Y), 3), (3, ("when", atom), 4), (3, ("unless", atom), 5),
            (2, SKIP, 6), (5, SKIP, 6),
        ], 4, 6)
        self.conditioned(("or", ATOM, atom), [
            (0, WHEN, 1), (0, UNLESS, 2), (2, nonzero(Y), 3), (3, ("when", atom), 4), (3, ("unless", atom), 5),
            (1, SKIP, 6), (4, SKIP, 6),
        ], 6, 5)

    def test_not_of_and_and_or(self):
        self.conditioned(("not", ("and", ATOM, ("not", OTHER))), [
            (0, WHEN, 1), (0, UNLESS, 2), (1, WHEN2, 3), (1, UNLESS2, 4), (2, SKIP, 5), (3, SKIP, 5),
        ], 5, 4)
        self.conditioned(("or", ("not", ATOM), OTHER), [
            (0, WHEN, 1), (0, UNLESS, 2), (1, WHEN2, 3), (1, UNLESS2, 4), (2, SKIP, 5), (3, SKIP, 5),
        ], 5, 4)

    def test_nested_to_the_left(self):
        self.conditioned(("or", ("and", ATOM, OTHER), THIRD), [
            (0, WHEN, 1), (0, UNLESS, 2), (1, WHEN2, 3), (1, UNLESS2, 4), (2, SKIP, 5), (4, SKIP, 5),
            (5, WHEN3, 6), (5, UNLESS3, 7), (3, SKIP, 8), (6, SKIP, 8),
        ], 8, 7)

    def test_nested_to_the_right(self):
        self.conditioned(("and", ATOM, ("or", OTHER, THIRD)), [
            (0, WHEN, 1), (0, UNLESS, 2), (1, WHEN2, 3), (1, UNLESS2, 4), (4, WHEN3, 5), (4, UNLESS3, 6),
            (3, SKIP, 7), (5, SKIP, 7), (2, SKIP, 8), (6, SKIP, 8),
        ], 7, 8)


class Guards(Laid):
    def test_none(self):
        for expression in (ONE, X, ("add", X, Y), ("sub", ("mul", X, Y), ONE)):
            self.laid(body(result=expression), 1, 0, [])

    def test_in_the_result(self):
        self.laid(body(SET, result=("mod", X, Y)), 3, 2, [(0, SET, 1), (1, nonzero(Y), 2)])

    def test_the_end_of_a_loop_and_the_result(self):
        self.laid(body(("while", ATOM, ()), result=("item", "a", X)), 5, 4, [
            (0, SKIP, 1), (1, WHEN, 2), (1, UNLESS, 3), (2, SKIP, 1), (3, within(X), 4),
        ])

    def test_items_in_items(self):
        inner = ("item", "a", ("add", X, ONE))
        self.laid(body(result=("item", "a", inner)), 3, 2, [(0, within(("add", X, ONE)), 1), (1, within(inner), 2)])

    def test_names_of_arrays(self):
        self.laid(body(result=("add", ("item", "b", X), ("item", "a", Y))), 3, 2, [
            (0, ("within", "b", X), 1), (1, within(Y), 2),
        ])

    def test_divisions_in_each_other(self):
        low, high = ("mod", X, Y), ("div", Y, X)
        for sign in ("div", "mod"):
            self.laid(body(result=(sign, low, high)), 4, 3, [(0, nonzero(Y), 1), (1, nonzero(X), 2), (2, nonzero(high), 3)])

    def test_divisions_and_items_in_each_other(self):
        index = ("div", ONE, X)
        item = ("item", "a", index)
        self.laid(body(result=("mod", ("item", "a", Y), item)), 5, 4, [
            (0, within(Y), 1), (1, nonzero(X), 2), (2, within(index), 3), (3, nonzero(item), 4),
        ])

    def test_in_other_operations(self):
        for sign in ("add", "sub", "mul"):
            self.laid(body(result=(sign, ("mod", ONE, X), ("div", ONE, Y))), 3, 2, [(0, nonzero(X), 1), (1, nonzero(Y), 2)])

    def test_equal_guards_are_all_laid_out(self):
        quotient = ("div", ONE, X)
        self.laid(body(result=("add", quotient, quotient)), 3, 2, [(0, nonzero(X), 1), (1, nonzero(X), 2)])


class AllFunctions(unittest.TestCase):
    def functions(self):
        return [function for thing in made(200) for function in thing]

    def test_points_are_created_one_after_the_other(self):
        for function in self.functions():
            seen = 0
            for start, _, stop in edges(function):
                self.assertLessEqual(start, seen)
                self.assertLessEqual(stop, seen + 1)
                seen = max(seen, stop)
            self.assertEqual(points_many(function), seen + 1)

    def test_the_exit_is_the_only_point_without_an_edge_from_it(self):
        for function in self.functions():
            begins = {row[0] for row in edges(function)}
            self.assertEqual(set(range(points_many(function))) - begins, {exit_of(function)})

    def test_kinds_of_values(self):
        for function in self.functions():
            self.assertIs(type(points_many(function)), int)
            self.assertIs(type(exit_of(function)), int)
            self.assertIs(type(edges(function)), list)
            self.assertFalse(has_list(tuple(edges(function))))

    def test_lists_for_tuples_names_and_unchanged_arguments(self):
        for function in self.functions()[:80]:
            lists = as_lists(function)
            self.assertEqual(edges(function=lists), edges(function))
            self.assertFalse(has_list(tuple(edges(lists))))
            self.assertEqual(points_many(function=lists), points_many(function))
            self.assertEqual(exit_of(function=lists), exit_of(function))
            self.assertEqual(lists, as_lists(function))

    def test_mixed_lists_and_tuples(self):
        mixed = ("main", ["n"], (), (["set", "x", ("div", ["num", 8], ["var", "n"])],), ["var", "x"])
        self.assertEqual(edges(mixed), edges(TINY[0]))
        self.assertFalse(has_list(tuple(edges(mixed))))

    def test_a_changed_result_changes_nothing(self):
        for function in (TINY[0], LOOP[0], as_lists(LOOP[0]), MORE):
            first = edges(function)
            kept = list(first)
            first.append((0, SKIP, 0))
            first.reverse()
            self.assertEqual(edges(function), kept)
            self.assertEqual(points_many(function), points_many(as_lists(function)))

    def test_a_changed_argument_does_not_change_a_result(self):
        function = as_lists(LOOP[0])
        rows = edges(function)
        function[3][0][2][0][2][2][1] = 77
        self.assertEqual(rows, edges(LOOP[0]))


if __name__ == "__main__":
    unittest.main()
