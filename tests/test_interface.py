"""What holds for every function and class of the interface: [2], [3] and [24]."""

import ast
import copy
import inspect
import pathlib
import unittest

from shadowruns import (
    checker, classes, desk, engine, errors, gaps, graph, limits, pieces, programs, repair, rests, running, session, spans, splits,
    states, texts, values, verdicts,
)
from shadowruns.engine import Settings, analyse
from shadowruns.values import EVERY, single
from tests.namings import SIGNS
from tests.samples import LOOP, MORE, ONE, TINY, TWO, X, Y, ZERO, as_lists, body, program
from tests.tables import num

MAIN = body(("set", "y", ("sub", X, ONE)), ("put", "a", Y, X), ("call", "z", "f", (("item", "a", Y),)), parameters=("x",),
            arrays=(("a", 3),), result=Y)
THING = (MAIN, MORE)
BEGIN = ((1, 3, 1, 0),)
GAPPED = Settings(gaps=True)
TABLE = analyse(THING, BEGIN, GAPPED)
STATE = TABLE[0][1]
FRAME = ((1, 0, 0), ((0, 0, 0),))
TRACE = running.run(THING, [1], [], 99)[1]
UNROLLED = splits.unrolled(LOOP, 1)
SORTS = classes.sorts_told(TINY, (("pos",),), SIGNS)
ONES, OTHERS = (1, 9, 2, 1), (-4, 8, 4, 0)
LESS, MUCH = ((3, (0, 1, 1, 0)),), ((1, single(0)), (3, (0, 5, 1, 0)))
BOUNDS, LOOSE = ((0, 2, None), (None, 0, 3), (None, None, 0)), ((0, 1, 4), (None, 0, None), (2, 2, 0))
CALL = ("call", "z", "f", (("item", "a", Y),))

# for each function a call, with the names of its parameters in the order of the document
CALLS = [
    (programs.is_program, dict(thing=TINY)),
    (programs.variables, dict(function=MAIN)),
    (graph.points_many, dict(function=MAIN)),
    (graph.edges, dict(function=MAIN)),
    (graph.exit_of, dict(function=MAIN)),
    (graph.fed, dict(program=TWO, point=(0, 0))),
    (graph.parts, dict(program=TWO)),
    (graph.heads, dict(program=TWO)),
    (running.run, dict(program=THING, numbers=[1], inputs=[], steps=99)),
    (running.frames_at, dict(trace=TRACE, point=(0, 1))),
    (running.witness, dict(program=TINY, tries=[([3], []), ([0], [])], point=(0, 0), kind="division", steps=9)),
    (spans.span_join, dict(one=(0, 3), other=(5, None))),
    (spans.span_meet, dict(one=(0, 6), other=(5, None))),
    (spans.span_add, dict(one=(0, 3), other=(5, None))),
    (spans.span_sub, dict(one=(0, 3), other=(5, None))),
    (spans.span_mul, dict(one=(-2, 3), other=(5, 6))),
    (spans.span_div, dict(one=(-7, 7), other=(2, 3))),
    (spans.span_mod, dict(one=(-1, 9), other=(3, 5))),
    (spans.span_widen, dict(one=(0, 3), other=(0, 4), marks=(10, 100))),
    (rests.rest_join, dict(one=(0, 4), other=(0, 10))),
    (rests.rest_meet, dict(one=(4, 1), other=(6, 3))),
    (rests.rest_add, dict(one=(4, 1), other=(6, 3))),
    (rests.rest_sub, dict(one=(4, 1), other=(6, 3))),
    (rests.rest_mul, dict(one=(4, 2), other=(6, 3))),
    (rests.rest_div, dict(one=(6, 4), other=(0, 3))),
    (rests.rest_mod, dict(one=(4, 1), other=(0, 6))),
    (values.single, dict(n=5)),
    (values.value_of, dict(low=1, high=10, m=4, r=3)),
    (values.contains, dict(value=ONES, n=3)),
    (values.value_within, dict(one=(1, 3, 2, 1), other=ONES)),
    (values.value_join, dict(one=ONES, other=OTHERS)),
    (values.value_meet, dict(one=(0, 9, 1, 0), other=OTHERS)),
    (values.value_apply, dict(sign="mod", one=(3, 11, 4, 3), other=single(6))),
    (values.value_widen, dict(one=(1, 3, 2, 1), other=ONES, marks=(20,))),
    (gaps.no_gaps, dict(k=3)),
    (gaps.gaps_closed, dict(gaps=BOUNDS, spans=[(0, 9), (None, None), (None, 1)])),
    (gaps.gaps_within, dict(one=BOUNDS, other=BOUNDS)),
    (gaps.gaps_join, dict(one=BOUNDS, other=LOOSE)),
    (gaps.gaps_meet, dict(one=BOUNDS, other=LOOSE)),
    (gaps.gaps_widen, dict(one=BOUNDS, other=LOOSE)),
    (gaps.gaps_without, dict(gaps=BOUNDS, i=1)),
    (gaps.gaps_moved, dict(gaps=BOUNDS, i=1, n=4)),
    (gaps.gaps_bound, dict(gaps=BOUNDS, i=0, j=2, n=7)),
    (pieces.same_pieces, dict(n=4, value=ONES)),
    (pieces.pieces_read, dict(pieces=MUCH, index=(0, 2, 1, 0))),
    (pieces.pieces_write, dict(pieces=MUCH, index=(0, 2, 2, 0), value=single(7))),
    (pieces.pieces_within, dict(one=LESS, other=((3, EVERY),))),
    (pieces.pieces_join, dict(one=LESS, other=MUCH)),
    (pieces.pieces_meet, dict(one=LESS, other=MUCH)),
    (pieces.pieces_widen, dict(one=LESS, other=((3, (0, 2, 1, 0)),), marks=(8,))),
    (states.entry_state, dict(function=MAIN, values=BEGIN, has_gaps=True)),
    (states.covers, dict(function=MAIN, state=TABLE[0][0], frame=FRAME)),
    (states.tightened, dict(state=STATE)),
    (states.state_within, dict(one=STATE, other=TABLE[0][2])),
    (states.state_join, dict(one=STATE, other=TABLE[0][0])),
    (states.state_meet, dict(one=STATE, other=TABLE[0][2])),
    (states.state_widen, dict(one=STATE, other=states.state_join(STATE, TABLE[0][0]), marks=(7, 9))),
    (states.expression_value, dict(function=MAIN, state=STATE, expression=("sub", X, Y))),
    (states.transferred, dict(function=MAIN, state=STATE, action=("set", "z", ("add", Y, num(4))))),
    (states.called, dict(program=THING, f=0, state=TABLE[0][4], action=CALL)),
    (states.returned, dict(program=THING, f=0, state=TABLE[0][4], action=CALL, exit_state=TABLE[1][0])),
    (engine.incoming, dict(program=THING, begin=BEGIN, table=TABLE, point=(0, 1), has_gaps=True)),
    (engine.analyse, dict(program=THING, begin=BEGIN, settings=GAPPED)),
    (checker.is_table, dict(program=THING, thing=TABLE)),
    (checker.first_break, dict(program=THING, begin=(EVERY,), table=TABLE)),
    (checker.confirms, dict(program=THING, begin=BEGIN, table=TABLE)),
    (checker.tables_meet, dict(one=TABLE, other=analyse(THING, (EVERY,), GAPPED))),
    (checker.tables_within, dict(one=TABLE, other=analyse(THING, (EVERY,), GAPPED))),
    (checker.first_outside, dict(program=THING, table=TABLE[:1] + [[None]], trace=TRACE)),
    (checker.result_of, dict(program=THING, table=TABLE)),
    (verdicts.risks, dict(program=THING)),
    (verdicts.verdict, dict(program=THING, table=TABLE, point=(0, 1))),
    (verdicts.verdicts, dict(program=THING, table=TABLE)),
    (verdicts.faults_in, dict(program=TINY, table=analyse(TINY, (EVERY,)))),
    (splits.unrolled, dict(program=LOOP, times=2)),
    (splits.copied, dict(program=TWO, name="f", names=["g", "h"])),
    (splits.parted, dict(program=TINY, name="main", condition=("less", ("var", "n"), ZERO))),
    (splits.folded, dict(program=LOOP, origins=UNROLLED[1], table=analyse(UNROLLED[0], ()))),
    (classes.is_naming, dict(thing=SIGNS)),
    (classes.class_of, dict(naming=SIGNS, n=-5)),
    (classes.classes, dict(naming=SIGNS)),
    (classes.classes_meeting, dict(naming=SIGNS, value=(0, 5, 1, 0))),
    (classes.value_of_sort, dict(naming=SIGNS, sort=("pos", "zero"))),
    (classes.sort_apply, dict(naming=SIGNS, sign="add", one=("neg",), other=("pos",))),
    (classes.sorts_told, dict(program=TINY, begin=(("pos",),), naming=SIGNS)),
    (classes.sorts_confirmed, dict(program=TINY, begin=(("pos",),), naming=SIGNS, table=SORTS)),
    (classes.sorts_cover, dict(naming=SIGNS, sort_state=SORTS[0][2], frame=((3, 2), ()))),
    (repair.carried, dict(old=THING, table=TABLE, program=(MORE, MAIN))),
    (repair.go_on, dict(program=THING, begin=(EVERY,), table=TABLE, settings=GAPPED)),
    (texts.program_text, dict(program=THING)),
    (texts.program_in, dict(text=texts.program_text(THING))),
    (texts.value_text, dict(value=(3, 11, 4, 3))),
    (desk.answers, dict(text=texts.program_text(TINY) + "\n\nbegin 1 4\nverdicts\nundo")),
]
# what may be left out
DEFAULTS = {engine.incoming: dict(has_gaps=False), engine.analyse: dict(settings=None), repair.go_on: dict(settings=None)}
ERRORS = [
    (errors.BadText, ValueError, dict(line=3)), (errors.BadLine, ValueError, dict(line=4)), (errors.NoProgram, ValueError, {}),
    (errors.Unsafe, ValueError, dict(condition=("less", X, Y))), (errors.Taken, ValueError, dict(name="f")),
    (errors.NoFunction, LookupError, dict(name="g")), (errors.NoRisk, LookupError, dict(point=(0, 5))),
    (errors.TooMany, OverflowError, dict(many=2)),
]


def as_tuples(thing):
    """The same thing with a tuple for each list."""
    if isinstance(thing, (list, tuple)):
        return tuple(as_tuples(part) for part in thing)
    return thing


def kinds(thing):
    """What a thing is made of, so that a list and a tuple, or 1 and True, are told apart."""
    if isinstance(thing, (list, tuple)):
        return type(thing), [kinds(part) for part in thing]
    return type(thing), thing


def lists_in(thing):
    """All lists in a thing."""
    found = [thing] if isinstance(thing, list) else []
    if isinstance(thing, (list, tuple)):
        for part in thing:
            found += lists_in(part)
    return found


def emptied(thing):
    """Takes everything out of all lists of a thing."""
    for row in lists_in(thing):
        row.clear()


class EveryFunction(unittest.TestCase):
    def test_all_of_the_interface_is_here(self):
        listed = set()
        tree = ast.parse((pathlib.Path(__file__).parent / "test_language.py").read_text())
        for node in ast.walk(tree):
            if isinstance(node, ast.Assign) and getattr(node.targets[0], "id", "") == "LISTED":
                for stem, names in ast.literal_eval(node.value).items():
                    listed |= {(stem, name) for name in names}
        here = {(call.__module__.split(".")[1], call.__name__) for call, _ in CALLS}
        here |= {("errors", error.__name__) for error, _, _ in ERRORS} | {("engine", "Settings"), ("session", "Session")}
        self.assertEqual(here, listed)
        self.assertEqual((limits.GREATEST, values.EVERY), (10 ** 30, (None, None, 1, 0)))
        self.assertIs(type(limits.GREATEST), int)

    def test_names_of_parameters(self):
        for call, given in CALLS:
            found = inspect.signature(call).parameters
            self.assertEqual(list(found), list(given), call)
            for name, parameter in found.items():
                self.assertEqual(parameter.kind, inspect.Parameter.POSITIONAL_OR_KEYWORD)
                expected = DEFAULTS.get(call, {}).get(name, inspect.Parameter.empty)
                self.assertEqual(parameter.default, expected, call)

    def test_by_position_and_by_name(self):
        for call, given in CALLS:
            found = kinds(call(*given.values()))
            self.assertEqual(kinds(call(**given)), found, call)
            self.assertEqual(kinds(call(**dict(reversed(list(given.items()))))), found, call)
            first = list(given)[:1]
            rest = {name: given[name] for name in list(given)[1:]}
            self.assertEqual(kinds(call(given[first[0]], **rest)), found, call)

    def test_lists_for_tuples_and_tuples_for_lists(self):
        for call, given in CALLS:
            found = kinds(call(**given))
            for other in (as_lists, as_tuples):
                self.assertEqual(kinds(call(**{
                    name: value if name == "thing" else other(value) for name, value in given.items()})), found, call)
                for name in given:
                    if name != "thing":
                        self.assertEqual(kinds(call(**{**given, name: other(given[name])})), found, (call, name))

    def test_arguments_are_not_changed(self):
        for call, given in CALLS:
            for other in (as_lists, copy.copy):
                mine = {name: value if name == "thing" else other(value) for name, value in given.items()}
                kept = {name: kinds(value) for name, value in mine.items() if name != "settings"}
                call(**mine)
                self.assertEqual({name: kinds(mine[name]) for name in kept}, kept, call)
        self.assertEqual(GAPPED, Settings(gaps=True))

    def test_lists_that_are_returned_are_new(self):
        for call, given in CALLS:
            mine = {name: value if name == "thing" else as_lists(value) for name, value in given.items()}
            first, second = call(**mine), call(**mine)
            kept = kinds(first)
            self.assertEqual(kinds(second), kept, call)
            owned = {id(row) for value in mine.values() for row in lists_in(value)} | {id(row) for row in lists_in(second)}
            self.assertEqual([row for row in lists_in(first) if id(row) in owned], [], call)
            # one list does not stand in two places
            self.assertEqual(len({id(row) for row in lists_in(first)}), len(lists_in(first)), call)
            emptied(first)
            self.assertEqual(kinds(second), kept, call)
            self.assertEqual(kinds(call(**mine)), kept, call)

    def test_arguments_that_are_changed_behind_the_call(self):
        for call, given in CALLS:
            mine = {name: value if name == "thing" else as_lists(value) for name, value in given.items()}
            found = call(**mine)
            kept = kinds(found)
            for name, value in mine.items():
                if name not in ("thing", "settings"):
                    emptied(value)
            self.assertEqual(kinds(found), kept, call)

    def test_results_may_be_passed_in_again(self):
        table = engine.analyse(LOOP, ())
        self.assertIs(checker.confirms(LOOP, (), checker.tables_meet(table, repair.go_on(LOOP, (), table))), True)
        self.assertEqual(texts.program_in(texts.program_text(splits.copied(TWO, "f", ["g"])[0])), splits.copied(TWO, "f", ["g"])[0])


class EveryClass(unittest.TestCase):
    METHODS = dict(replace=["function"], begin_with=["begin"], undo=[], program=[], begin=[], table=[], verdicts=[], operations=[],
                   computed=[])

    def test_methods_are_defined_in_the_class_itself(self):
        for name, given in self.METHODS.items():
            method = vars(session.Session)[name]
            self.assertEqual(list(inspect.signature(method).parameters)[1:], given)
        for name in ("__init__", "__eq__", "__repr__"):
            self.assertIn(name, vars(session.Session))
        for name in ("__init__", "__eq__"):
            self.assertIn(name, vars(engine.Settings))

    def test_parameters(self):
        found = inspect.signature(session.Session).parameters
        self.assertEqual(list(found), ["program", "begin", "settings"])
        self.assertIsNone(found["settings"].default)
        found = inspect.signature(engine.Settings).parameters
        self.assertEqual({name: row.default for name, row in found.items()}, dict(gaps=False, delay=2, marks=(), narrow=2, order=()))
        self.assertTrue(all(row.kind == inspect.Parameter.KEYWORD_ONLY for row in found.values()))

    def test_errors(self):
        for error, base, given in ERRORS:
            self.assertEqual(error.__bases__, (base,))
            self.assertEqual(list(inspect.signature(error).parameters), list(given))
            for made in (error(*given.values()), error(**given), error(**{name: as_lists(value) for name, value in given.items()})):
                self.assertEqual({name: kinds(getattr(made, name)) for name in given},
                                 {name: kinds(value) for name, value in given.items()})
                self.assertIsInstance(str(made), str)


class Limits(unittest.TestCase):
    def test_as_great_as_they_may_be_and_somewhat_greater(self):
        def deep(many, leaf):
            e = leaf
            for _ in range(many):
                e = ("add", ("sub", e, ONE), ("mul", ONE, ONE))
            return e

        names = ["a", "b", "c", "d", "e", "f", "g"]
        for many in (6, 7):
            condition = ("less", deep(many, X), num(10 ** 12))
            block = (("set", "x", deep(many, X)),)
            for _ in range(many):
                condition = ("and", condition, ("not", ("equal", X, num(-1))))
                block = (("if", ("less", X, num(5)), block, ()),)
            arrays = tuple((name + name, 12) for name in names[:many // 2])
            thing = program(("while", condition, block + (("set", "x", ("add", X, ONE)), ("input", "y", None, 10 ** 12))),
                            ("put", "aa", num(11), X), parameters=tuple(names[:many - 2]), arrays=arrays, result=("item", "aa", num(11)))
            others = tuple(body(("call", "x", "main", tuple(num(n) for n in range(many - 2))), name=name) for name in "hij")
            whole = thing + others
            self.assertIs(programs.is_program(whole), True)
            begin = (EVERY,) * (many - 2)
            settings = Settings(gaps=True, delay=40, narrow=many, marks=tuple(range(many)), order=[(0, k) for k in range(9)])
            table = analyse(whole, begin, settings)
            self.assertIs(checker.confirms(whole, begin, table), True)
            trace = running.run(whole, [0] * (many - 2), [3] * 50, 2000)[1]
            self.assertIsNone(checker.first_outside(whole, table, trace))
            new, origins = splits.unrolled(whole, 2)
            self.assertIs(programs.is_program(new), True)
            self.assertIs(checker.is_table(new, analyse(new, begin)), True)
            self.assertIsNone(checker.first_outside(whole, splits.folded(whole, origins, analyse(new, begin)), trace))
            self.assertEqual(texts.program_in(texts.program_text(whole)), whole)
            self.assertEqual(verdicts.verdicts(whole, table), session.Session(whole, begin, settings).verdicts())

    def test_runs_with_calls_nested_as_deep_as_their_steps_allow(self):
        thing = (body(("call", "x", "main", ())),)
        end, trace = running.run(thing, [], [], 2000)
        self.assertEqual((end, len(trace)), (("open", (0, 0)), 2000))
        down = (body(("if", ("less", ZERO, X), (("call", "y", "main", (("sub", X, ONE),)),), ()), parameters=("x",), result=X),)
        self.assertEqual(running.run(down, [300], [], 2000)[0], ("done", 300))
        self.assertEqual(running.run(down, [30000], [], 200000)[0], ("done", 30000))

    def test_sessions_of_forty_operations(self):
        talk = session.Session(TINY, (EVERY,))
        for n in range(45):
            talk.begin_with(((n, None, 1, 0),))
        self.assertEqual(talk.operations(), 45)
        self.assertEqual(talk.verdicts(), [((0, 0), "division", "never")])

    def test_texts_of_200_lines_of_400_characters(self):
        wide = "set x " + "+ 1 " * 98 + "1"
        self.assertEqual(len(wide), 399)
        lines = ["function main"] + [wide] * 98 + ["if < x 1"] * 50 + ["end"] * 50 + ["return x"]
        self.assertEqual(len(lines), 200)
        thing = texts.program_in("\n".join(lines))
        self.assertEqual(texts.program_text(thing), "\n".join(lines))
        self.assertEqual(desk.answers("\n".join(lines) + "\n\nresult\nrun /"), ["99", "done 99"])


if __name__ == "__main__":
    unittest.main()
