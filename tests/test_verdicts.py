"""verdicts.py ([17]), with guarantee (c) of [1]."""

import copy
import unittest

from shadowruns.engine import Settings, analyse
from shadowruns.errors import NoRisk
from shadowruns.graph import edges
from shadowruns.states import expression_value, transferred
from shadowruns.values import EVERY, contains, single
from shadowruns.verdicts import faults_in, risks, verdict, verdicts
from tests.samples import LOOP, ONE, TINY, TWO, X, Y, as_lists, body, likely, made, program
from tests.tables import N0, all_points, draws, num, only, runs_of

INDEX = program(("set", "y", ("item", "a", X)), parameters=("x",), arrays=(("a", 4),))
CHECK = program(("check", ("less", X, num(5))), parameters=("x",))


def one_verdict(thing, *values, **more):
    """The only verdict of a program with these values for its parameters."""
    found = verdicts(thing, analyse(thing, values, Settings(**more)))
    return [row[2] for row in found]


def risks_by_the_words(thing):
    kinds = {"nonzero": "division", "within": "index", "fail": "check"}
    found = []
    for f, function in enumerate(thing):
        for start, action, _ in edges(function):
            if action[0] in kinds:
                found.append(((f, start), kinds[action[0]]))
    return sorted(found)


def verdict_by_the_words(thing, table, point):
    f, k = point
    function = thing[f]
    for start, action, _ in edges(function):
        if start == k and action[0] in ("nonzero", "within", "fail"):
            if table[f][k] is None:
                return "unreached"
            if transferred(function, table[f][k], action) is None:
                return "always"
            value = expression_value(function, table[f][k], action[-1])
            if action[0] == "nonzero":
                return "maybe" if contains(value, 0) else "never"
            last = dict(function[2])[action[1]] - 1
            inside = value[0] is not None and value[1] is not None and value[0] >= 0 and value[1] <= last
            return "never" if inside else "maybe"
    raise AssertionError


class Examples(unittest.TestCase):
    def test_of_the_document(self):
        self.assertEqual(verdicts(TINY, analyse(TINY, (EVERY,))), [((0, 0), "division", "maybe")])
        self.assertEqual(verdicts(TINY, analyse(TINY, ((1, None, 1, 0),))), [((0, 0), "division", "never")])


class Risks(unittest.TestCase):
    def test_none(self):
        self.assertEqual(risks(LOOP), [])
        self.assertEqual(risks(TWO), [])
        self.assertEqual(verdicts(LOOP, analyse(LOOP, ())), [])
        self.assertEqual(faults_in(LOOP, analyse(LOOP, ())), [])

    def test_each_kind(self):
        self.assertEqual(risks(TINY), [((0, 0), "division")])
        self.assertEqual(risks(program(("set", "x", ("mod", X, Y)))), [((0, 0), "division")])
        self.assertEqual(risks(INDEX), [((0, 0), "index")])
        self.assertEqual(risks(program(("put", "a", X, Y), arrays=(("a", 1),))), [((0, 0), "index")])
        # 0 when 1, unless 2; 2 fail 1
        self.assertEqual(risks(CHECK), [((0, 2), "check")])
        self.assertEqual(risks(program(("assume", ("less", X, Y)))), [])

    def test_ascending(self):
        # 0 step 1, head 1; 1 when 2, unless 3; 2 nonzero 4; 4 set 5; then from 3: within 6
        loop = ("while", ("less", X, Y), (("set", "x", ("div", X, Y)),))
        first = body(loop, arrays=(("a", 2),), result=("item", "a", X))
        second = body(("check", ("not", ("less", X, Y))), name="g", result=("mod", X, Y))
        self.assertEqual(risks((first, second)), [
            ((0, 2), "division"), ((0, 3), "index"), ((1, 1), "check"), ((1, 2), "division")])
        for thing in likely(40) + made(60):
            self.assertEqual(risks(thing), risks_by_the_words(thing))
            self.assertEqual(risks(program=as_lists(thing)), risks_by_the_words(thing))
            self.assertTrue(all(type(row) is tuple and type(row[0]) is tuple for row in risks(as_lists(thing))))

    def test_new_lists(self):
        risks(TINY).clear()
        self.assertEqual(risks(TINY), [((0, 0), "division")])


class EachVerdict(unittest.TestCase):
    def test_division(self):
        for value, expected in [
            (EVERY, "maybe"), ((0, 9, 1, 0), "maybe"), ((-9, 0, 1, 0), "maybe"), ((-1, 1, 1, 0), "maybe"),
            ((1, 9, 1, 0), "never"), ((None, -1, 1, 0), "never"), ((None, None, 2, 1), "never"), (single(5), "never"),
            ((-2, 2, 4, 2), "never"), (N0, "always"), (single(10 ** 30 + 1), "unreached"),
        ]:
            self.assertEqual(one_verdict(TINY, value), [expected], value)

    def test_index(self):
        for value, expected in [
            (EVERY, "maybe"), ((0, 3, 1, 0), "never"), ((1, 2, 1, 0), "never"), (N0, "never"), (single(3), "never"),
            ((0, 4, 1, 0), "maybe"), ((-1, 3, 1, 0), "maybe"), (single(4), "always"), (single(-1), "always"),
            ((None, -1, 1, 0), "always"), ((4, None, 1, 0), "always"), ((None, None, 9, 4), "always"),
            ((-5, 4, 9, 4), "always"), ((-4, 5, 9, 5), "always"), ((None, 3, 1, 0), "maybe"), ((0, None, 1, 0), "maybe"),
            ((1, 4, 3, 1), "maybe"), (single(10 ** 31), "unreached"),
        ]:
            self.assertEqual(one_verdict(INDEX, value), [expected], value)

    def test_the_last_index(self):
        for length, expected in [(1, "always"), (5, "always"), (6, "never"), (12, "never")]:
            thing = program(("put", "a", num(5), ONE), arrays=(("b", 6), ("a", length)))
            self.assertEqual(one_verdict(thing), [expected])

    def test_check(self):
        for value, expected in [((0, 4, 1, 0), "unreached"), (EVERY, "always"), (single(5), "always"),
                                (single(4), "unreached")]:
            self.assertEqual(one_verdict(CHECK, value), [expected])

    def test_always_because_of_gaps_alone(self):
        # y is x; x - y is 0, but without differences it may be anything
        thing = program(("set", "y", X), ("set", "z", ("div", ONE, ("sub", X, Y))), parameters=("x",))
        self.assertEqual(one_verdict(thing, EVERY, gaps=True), ["always"])
        self.assertEqual(one_verdict(thing, EVERY), ["maybe"])
        thing = program(("set", "y", ("add", X, ONE)), ("set", "z", ("item", "a", ("sub", X, Y))), parameters=("x",),
                        arrays=(("a", 3),))
        self.assertEqual(one_verdict(thing, EVERY, gaps=True), ["always"])
        self.assertEqual(one_verdict(thing, EVERY), ["maybe"])
        thing = program(("set", "y", ("add", X, ONE)), ("set", "z", ("item", "a", ("sub", Y, X))), parameters=("x",),
                        arrays=(("a", 2),))
        self.assertEqual(one_verdict(thing, EVERY, gaps=True), ["never"])
        self.assertEqual(one_verdict(thing, EVERY), ["maybe"])

    def test_always_because_the_tightened_copy_is_none(self):
        thing = program(("set", "y", ("div", X, Y)), parameters=("x",))
        state = ((N0, single(5)), ((0, None), (2, 0)), ())
        self.assertEqual(verdict(thing, [[state, None, None]], (0, 0)), "always")
        self.assertEqual(verdict(thing, [[((N0, single(5)), ((0, None), (5, 0)), ()), None, None]], (0, 0)), "never")

    def test_always_because_of_what_comes_first(self):
        # the inner index has no value, so the outer one has none
        thing = program(("set", "y", ("item", "a", ("mod", X, Y))), arrays=(("a", 3),))
        table = [[only(N0, N0)] * 4]
        table[0] = [(state[0], None, (((3, N0),),)) for state in table[0]]
        self.assertEqual(verdict(thing, table, (0, 1)), "always")

    def test_tables_that_are_no_analysis(self):
        self.assertEqual(verdicts(TINY, [[None] * 3]), [((0, 0), "division", "unreached")])
        self.assertEqual(verdict(TINY, [[only((1, 5, 1, 0), EVERY), None, None]], (0, 0)), "never")
        self.assertEqual(verdict(TINY, [[only((0, 5, 1, 0), EVERY), None, None]], (0, 0)), "maybe")
        self.assertEqual(verdict(CHECK, [[None, None, only(EVERY)]], (0, 2)), "always")

    def test_by_the_words(self):
        seen = {}
        for _, thing, begin, settings in draws(1, 60):
            table = analyse(thing, begin, settings)
            rows = [(point, kind, verdict_by_the_words(thing, table, point)) for point, kind in risks(thing)]
            self.assertEqual(verdicts(thing, table), rows)
            self.assertEqual(faults_in(thing, table), [row for row in rows if row[2] in ("always", "maybe")])
            for point, kind, word in rows:
                self.assertEqual(verdict(thing, table, point), word)
                seen[kind, word] = seen.get((kind, word), 0) + 1
        self.assertEqual(len(seen), 10, seen)


class NoRisks(unittest.TestCase):
    def test_points_without_one(self):
        table = analyse(TINY, (EVERY,))
        for point in [(0, 1), (0, 2), (0, 3), (1, 0), (-1, 0), (0, -1), (0, -3), (9, 9), (10 ** 40, 0), (0, 10 ** 5000)]:
            for given in (point, list(point)):
                with self.assertRaises(NoRisk) as caught:
                    verdict(TINY, table, given)
                self.assertEqual(caught.exception.point, point)
                self.assertIs(type(caught.exception.point), tuple)

    def test_the_points_of_a_check_other_than_its_false_one(self):
        table = analyse(CHECK, (EVERY,))
        self.assertEqual(verdict(CHECK, table, (0, 2)), "always")
        for k in (0, 1):
            with self.assertRaises(NoRisk):
                verdict(CHECK, table, (0, k))

    def test_all_points(self):
        for thing in likely(20) + made(20):
            table = analyse(thing, [EVERY] * len(thing[0][1]))
            risky = [point for point, _ in risks(thing)]
            for point in all_points(thing):
                if point not in risky:
                    with self.assertRaises(NoRisk):
                        verdict(thing, table, point)


class Guarantee(unittest.TestCase):
    def test_verdicts_are_never_wrong(self):
        ends = {}
        for chance, thing, begin, settings in draws(2, 120):
            table = analyse(thing, begin, settings)
            words = {point: word for point, _, word in verdicts(thing, table)}
            kinds = dict(risks(thing))
            for end, trace in runs_of(chance, thing, begin, 5):
                for k, (point, _) in enumerate(trace):
                    word = words.get(point)
                    ends[word] = ends.get(word, 0) + 1
                    faulty = k + 1 == len(trace) and end == ("fault", kinds.get(point), point)
                    self.assertNotEqual(word, "unreached", (thing, begin, point))
                    if word == "never":
                        self.assertFalse(faulty, (thing, begin, point))
                    if word == "always" and end[0] != "open":
                        self.assertTrue(faulty, (thing, begin, point))
                if end[0] == "fault":
                    self.assertIn((end[2], end[1], words[end[2]]), faults_in(thing, table))
        self.assertTrue(all(ends[word] > 50 for word in ("never", "always", "maybe")), ends)


class Arguments(unittest.TestCase):
    def test_lists_names_and_unchanged_arguments(self):
        for _, thing, begin, settings in draws(3, 30):
            table = analyse(thing, begin, settings)
            lists, rows = as_lists(thing), as_lists(table)
            kept = copy.deepcopy((lists, rows))
            found = verdicts(table=rows, program=lists)
            self.assertEqual(found, verdicts(thing, table))
            self.assertEqual(faults_in(table=rows, program=lists), faults_in(thing, table))
            for point, _, word in found:
                self.assertIs(type(point), tuple)
                self.assertEqual(verdict(point=list(point), table=rows, program=lists), word)
            self.assertEqual((lists, rows), kept)

    def test_new_lists(self):
        table = analyse(TINY, (EVERY,))
        verdicts(TINY, table).clear()
        faults_in(TINY, table).clear()
        self.assertEqual(verdicts(TINY, table), faults_in(TINY, table))
        self.assertEqual(len(verdicts(TINY, table)), 1)


if __name__ == "__main__":
    unittest.main()
