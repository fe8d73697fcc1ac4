"""fed, parts and heads ([6])."""

import unittest

from shadowruns.graph import edges, exit_of, fed, heads, parts, points_many
from tests.samples import ATOM, LOOP, MORE, ONE, TINY, TWO, X, as_lists, body, made, program

SET = ("set", "x", ONE)
CALL_F = ("call", "x", "f", (X,))


def points_of(thing):
    """All POINTs of a program, ascending."""
    return [(f, k) for f, function in enumerate(thing) for k in range(points_many(function))]


def fed_by_the_words(thing):
    """What each POINT feeds, by the words of [6], one after the other."""
    names = [function[0] for function in thing]
    exits = [exit_of(function) for function in thing]
    found = {point: set() for point in points_of(thing)}
    for f, function in enumerate(thing):
        for start, action, stop in edges(function):
            found[(f, start)].add((f, stop))
            if action[0] == "call":
                g = names.index(action[2])
                found[(f, start)].add((g, 0))
                found[(g, exits[g])].add((f, stop))
    return {point: sorted(found[point]) for point in found}


def led_to(thing):
    """For each POINT the set of all that it leads to, itself only if it lies on a ring."""
    found = {point: set(row) for point, row in fed_by_the_words(thing).items()}
    for middle in found:
        for point in found:
            if middle in found[point]:
                found[point] |= found[middle]
    return found


def parts_by_the_words(thing):
    """The parts, by trying for each place which of those that are left could come next."""
    leads = led_to(thing)
    left = []
    for point in points_of(thing):
        part = tuple(q for q in leads if q == point or (q in leads[point] and point in leads[q]))
        if part not in left:
            left.append(part)
    found = []
    while left:
        ready = [part for part in left if not any(
            point in leads[other] for behind in left if behind != part for other in behind for point in part)]
        found.append(min(ready))
        left.remove(found[-1])
    return found


class Examples(unittest.TestCase):
    def test_of_the_document(self):
        self.assertEqual(parts(LOOP), [((0, 0),), ((0, 1), (0, 2), (0, 4)), ((0, 3),)])
        self.assertEqual(heads(LOOP), [(0, 1)])
        self.assertEqual(parts(TWO), [((0, 0),), ((0, 1), (1, 0)), ((0, 2),)])
        self.assertEqual(heads(TWO), [(0, 2), (1, 0)])

    def test_fed_of_the_examples(self):
        self.assertEqual([fed(LOOP, (0, k)) for k in range(5)], [[(0, 1)], [(0, 2), (0, 3)], [(0, 4)], [], [(0, 1)]])
        self.assertEqual([fed(TWO, (0, k)) for k in range(3)], [[(0, 1), (1, 0)], [(0, 2), (1, 0)], []])
        self.assertEqual(fed(TWO, (1, 0)), [(0, 1), (0, 2)])
        self.assertEqual([fed(TINY, (0, k)) for k in range(3)], [[(0, 1)], [(0, 2)], []])

    def test_no_rings(self):
        self.assertEqual(parts(TINY), [((0, 0),), ((0, 1),), ((0, 2),)])
        self.assertEqual(heads(TINY), [])
        self.assertEqual((parts((body(),)), heads((body(),)), fed((body(),), (0, 0))), ([((0, 0),)], [], []))


class Calls(unittest.TestCase):
    def test_a_function_that_calls_itself(self):
        thing = (body(("if", ATOM, (("call", "x", "main", ()),), (SET,))),)
        # 0 skip 1; 1 when 2, unless 3; 2 call 4; 3 set 5; 4 and 5 skip 6, the exit
        self.assertEqual([fed(thing, (0, k)) for k in range(7)], [
            [(0, 1)], [(0, 2), (0, 3)], [(0, 0), (0, 4)], [(0, 5)], [(0, 6)], [(0, 6)], [(0, 4)],
        ])
        self.assertEqual(parts(thing), [
            ((0, 0), (0, 1), (0, 2)), ((0, 3),), ((0, 5),), ((0, 4), (0, 6)),
        ])
        self.assertEqual(heads(thing), [(0, 0), (0, 4)])

    def test_a_function_that_begins_with_a_call_of_itself(self):
        thing = (body(("call", "x", "main", ())),)
        self.assertEqual([fed(thing, (0, k)) for k in range(2)], [[(0, 0), (0, 1)], [(0, 1)]])
        self.assertEqual(parts(thing), [((0, 0),), ((0, 1),)])
        self.assertEqual(heads(thing), [(0, 0), (0, 1)])

    def test_two_functions_that_call_each_other(self):
        thing = (body(("call", "x", "g", ())), body(("call", "x", "h", ()), name="g"),
                 body(("call", "x", "g", ()), name="h"))
        self.assertEqual(fed(thing, (0, 0)), [(0, 1), (1, 0)])
        self.assertEqual(fed(thing, (1, 0)), [(1, 1), (2, 0)])
        self.assertEqual(fed(thing, (1, 1)), [(0, 1), (2, 1)])
        self.assertEqual(fed(thing, (2, 0)), [(1, 0), (2, 1)])
        self.assertEqual(fed(thing, (2, 1)), [(1, 1)])
        self.assertEqual(parts(thing), [((0, 0),), ((1, 0), (2, 0)), ((1, 1), (2, 1)), ((0, 1),)])
        self.assertEqual(heads(thing), [(1, 0), (1, 1), (2, 0), (2, 1)])

    def test_two_calls_one_behind_the_other(self):
        thing = program(CALL_F, SET, CALL_F, SET, others=(MORE,))
        self.assertEqual(fed(thing, (1, 0)), [(0, 1), (0, 3)])
        self.assertEqual(parts(thing), [((0, 0),), ((0, 1), (0, 2), (1, 0)), ((0, 3),), ((0, 4),)])
        self.assertEqual(heads(thing), [(0, 3), (1, 0)])

    def test_three_calls_one_behind_the_other(self):
        thing = program(CALL_F, CALL_F, CALL_F, others=(MORE,))
        self.assertEqual(parts(thing), [((0, 0),), ((0, 1), (0, 2), (1, 0)), ((0, 3),)])
        self.assertEqual(heads(thing), [(0, 2), (0, 3), (1, 0)])

    def test_calls_in_the_two_blocks_of_an_if(self):
        thing = program(("if", ATOM, (CALL_F,), (CALL_F,)), others=(MORE,))
        self.assertEqual(fed(thing, (1, 0)), [(0, 4), (0, 5)])
        self.assertEqual(heads(thing), [])
        self.assertTrue(all(len(part) == 1 for part in parts(thing)))

    def test_one_call(self):
        thing = program(CALL_F, others=(body(SET, name="f", parameters=("n",)),))
        self.assertEqual(fed(thing, (0, 0)), [(0, 1), (1, 0)])
        self.assertEqual(parts(thing), [((0, 0),), ((1, 0),), ((1, 1),), ((0, 1),)])
        self.assertEqual(heads(thing), [])

    def test_a_call_within_a_loop(self):
        thing = program(("while", ATOM, (CALL_F,)), others=(MORE,))
        # 0 skip 1; 1 when 2, unless 3; 2 call 4; 4 skip 1
        self.assertEqual(fed(thing, (0, 2)), [(0, 4), (1, 0)])
        self.assertEqual(parts(thing), [((0, 0),), ((0, 1), (0, 2), (0, 4), (1, 0)), ((0, 3),)])
        self.assertEqual(heads(thing), [(0, 1), (0, 4), (1, 0)])

    def test_the_exit_of_a_called_function_not_its_last_point(self):
        called = body(("while", ATOM, (SET,)), name="f", parameters=("n",))
        thing = program(CALL_F, others=(called,))
        self.assertEqual(exit_of(called), 3)
        self.assertEqual(fed(thing, (1, 3)), [(0, 1)])
        self.assertEqual(fed(thing, (1, 4)), [(1, 1)])
        self.assertEqual(parts(thing), [((0, 0),), ((1, 0),), ((1, 1), (1, 2), (1, 4)), ((1, 3),), ((0, 1),)])
        self.assertEqual(heads(thing), [(1, 1)])

    def test_a_function_that_is_never_called(self):
        other = body(("while", ATOM, ()), name="g")
        thing = program(SET, others=(other,))
        self.assertEqual(fed(thing, (1, 3)), [])
        self.assertEqual(parts(thing), [((0, 0),), ((0, 1),), ((1, 0),), ((1, 1), (1, 2)), ((1, 3),)])
        self.assertEqual(heads(thing), [(1, 1)])

    def test_a_function_that_only_an_uncalled_one_calls(self):
        thing = program(SET, others=(MORE, body(CALL_F, name="g")))
        self.assertEqual(fed(thing, (1, 0)), [(2, 1)])
        self.assertEqual(parts(thing), [((0, 0),), ((0, 1),), ((2, 0),), ((1, 0),), ((2, 1),)])

    def test_main_called_by_another_function(self):
        thing = program(SET, others=(body(("call", "x", "main", ()), name="g"),))
        self.assertEqual(fed(thing, (0, 1)), [(1, 1)])
        self.assertEqual(parts(thing), [((1, 0),), ((0, 0),), ((0, 1),), ((1, 1),)])
        self.assertEqual(heads(thing), [])

    def test_a_variable_with_the_name_of_a_function_is_no_call(self):
        thing = program(("set", "f", ("var", "f")), others=(MORE,))
        self.assertEqual(fed(thing, (0, 0)), [(0, 1)])
        self.assertEqual(fed(thing, (1, 0)), [])


class Loops(unittest.TestCase):
    def test_loops_in_each_other(self):
        thing = program(("while", ATOM, (("while", ATOM, (SET,)),)))
        self.assertEqual(heads(thing), [(0, 1), (0, 4)])
        self.assertEqual(parts(thing), [
            ((0, 0),), ((0, 1), (0, 2), (0, 4), (0, 5), (0, 6), (0, 7)), ((0, 3),),
        ])

    def test_loops_one_behind_the_other(self):
        thing = program(("while", ATOM, ()), ("while", ATOM, ()))
        self.assertEqual(heads(thing), [(0, 1), (0, 4)])
        self.assertEqual(parts(thing), [((0, 0),), ((0, 1), (0, 2)), ((0, 3),), ((0, 4), (0, 5)), ((0, 6),)])

    def test_the_least_point_comes_first(self):
        thing = program(("if", ATOM, (SET, SET), (SET,)))
        self.assertEqual(parts(thing), [((0, k),) for k in (0, 1, 2, 3, 4, 5, 6, 7)])
        thing = program(("check", ("not", ATOM)), ("if", ("or", ATOM, ATOM), (SET,), ()))
        # 0 when 1, unless 2; 1 fail 2; 2 skip 3; 3 when 4, unless 5; 5 when 6, unless 7; 4 and 6 skip 8; 8 set 9
        self.assertEqual(parts(thing), [((0, k),) for k in range(11)])
        thing = program(("check", ATOM), SET)
        self.assertEqual(parts(thing), [((0, 0),), ((0, 2),), ((0, 1),), ((0, 3),)])

    def test_a_long_program(self):
        thing = program(*[SET] * 3000)
        self.assertEqual(parts(thing), [((0, k),) for k in range(3001)])
        thing = program(("while", ATOM, (SET,) * 3000))
        self.assertEqual([len(part) for part in parts(thing)], [1, 3002, 1])


class AllPrograms(unittest.TestCase):
    def test_fed_is_as_the_document_says(self):
        for thing in (TINY, LOOP, TWO, *made(60)):
            for point, expected in fed_by_the_words(thing).items():
                self.assertEqual(fed(thing, point), expected)

    def test_parts_are_as_the_document_says(self):
        tried = 0
        for thing in (TINY, LOOP, TWO, *made(250)):
            if len(points_of(thing)) <= 45:
                tried += 1
                self.assertEqual(parts(thing), parts_by_the_words(thing))
        self.assertGreater(tried, 60)

    def test_every_ring_has_a_head(self):
        for thing in (LOOP, TWO, *made(250)):
            taken = heads(thing)
            feeds = fed_by_the_words(thing)
            waiting = {point: 0 for point in points_of(thing) if point not in taken}
            for point in waiting:
                for after in feeds[point]:
                    if after in waiting:
                        waiting[after] += 1
            ready = [point for point in waiting if waiting[point] == 0]
            gone = 0
            while ready:
                gone += 1
                for after in feeds[ready.pop()]:
                    if after in waiting:
                        waiting[after] -= 1
                        if waiting[after] == 0:
                            ready.append(after)
            self.assertEqual(gone, len(waiting))

    def test_heads_are_as_the_document_says(self):
        for thing in (LOOP, TWO, *made(250)):
            names = [function[0] for function in thing]
            home = {point: part for part in parts(thing) for point in part}
            expected = []
            for f, function in enumerate(thing):
                rows = edges(function)
                # only the last EDGE of a loop leads back
                expected.extend((f, stop) for start, action, stop in rows if stop < start and action == ("skip",))
                for start, action, stop in rows:
                    if action[0] == "call":
                        entry = (names.index(action[2]), 0)
                        if entry in home[(f, start)]:
                            expected.extend([entry, (f, stop)])
            self.assertEqual(heads(thing), sorted(set(expected)))

    def test_lists_for_tuples_names_and_unchanged_arguments(self):
        for thing in (TINY, LOOP, TWO, *made(40)):
            lists = as_lists(thing)
            for point in points_of(thing):
                self.assertEqual(fed(program=lists, point=list(point)), fed(thing, point))
            self.assertEqual(parts(program=lists), parts(thing))
            self.assertEqual(heads(program=lists), heads(thing))
            self.assertEqual(lists, as_lists(thing))

    def test_kinds_of_values(self):
        for thing in (TINY, LOOP, TWO, as_lists(TWO)):
            self.assertIs(type(parts(thing)), list)
            self.assertIs(type(heads(thing)), list)
            for part in parts(thing):
                self.assertIs(type(part), tuple)
                self.assertEqual(list(part), sorted(part))
            for row in (fed(thing, [0, 0]), fed(thing, (0, 0)), heads(thing), *parts(thing)):
                self.assertIn(type(row), (list, tuple))
                self.assertTrue(all(type(point) is tuple for point in row))

    def test_changed_results_change_nothing(self):
        for call in (lambda: fed(TWO, (0, 0)), lambda: parts(TWO), lambda: heads(TWO)):
            first = call()
            kept = list(first)
            first.append((9, 9))
            first.reverse()
            self.assertEqual(call(), kept)


if __name__ == "__main__":
    unittest.main()
