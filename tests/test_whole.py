"""The guarantees (a) to (f) of [1] over the whole program, also one after another."""

import random
import unittest

from shadowruns.checker import (
    confirms, first_break, first_outside, is_table, result_of, tables_meet, tables_within,
)
from shadowruns.classes import sorts_confirmed, sorts_cover, sorts_told
from shadowruns.desk import answers
from shadowruns.engine import Settings, analyse
from shadowruns.graph import edges, points_many
from shadowruns.programs import is_program, variables
from shadowruns.repair import carried, go_on
from shadowruns.running import run, witness
from shadowruns.session import Session
from shadowruns.splits import copied, folded, parted, unrolled
from shadowruns.texts import program_in, program_text
from shadowruns.values import contains, value_join
from shadowruns.verdicts import faults_in, verdicts
from tests.namings import NAMINGS, drawn_naming
from tests.samples import likely
from tests.tables import BEGINS, SPECIAL, drawn_runs, drawn_settings
from tests.test_session import changed_function


def drawn(seed, many):
    """Quintuples of a chance, a program, its begin, settings, and pairs of numbers and inputs."""
    chance = random.Random(seed)
    for thing in SPECIAL + likely(many, 30000 + seed * 1000):
        begin = tuple(chance.choice(BEGINS) for _ in thing[0][1])
        yield chance, thing, begin, drawn_settings(chance, thing), drawn_runs(chance, begin, 3)


def one_split(chance, thing):
    """A changed program and its origins."""
    kind = chance.choice(["unrolled", "copied", "parted"])
    function = chance.choice(thing)
    if kind == "parted" and variables(function):
        names = [("var", name) for name in variables(function)]
        one, other = chance.choice(names), chance.choice(names + [("num", chance.randint(-2, 6))])
        return parted(thing, function[0], chance.choice([("less", one, other), ("not", ("equal", one, other))]))
    if kind == "copied":
        many = len([1 for other in thing if other[0] != function[0] for _, action, _ in edges(other)
                    if action[0] == "call" and action[2] == function[0]])
        taken = [other[0] for other in thing]
        names = [name for name in ("q", "r", "s", "t", "u", "v", "w") if name not in taken]
        return copied(thing, function[0], names[:min(many, chance.randint(1, 2))])
    return unrolled(thing, 1)


def size(thing):
    return sum(points_many(function) for function in thing)


class Guarantees(unittest.TestCase):
    def described(self, thing, table, tries):
        for numbers, inputs in tries:
            self.assertIsNone(first_outside(thing, table, run(thing, numbers, inputs, 250)[1]))

    def confirmed(self, thing, begin, table, tries):
        """The table is one, is confirmed, and describes the runs."""
        self.assertIs(is_table(thing, table), True)
        self.assertIsNone(first_break(thing, begin, table))
        self.described(thing, table, tries)

    def test_a_b_c(self):
        faults = 0
        for _, thing, begin, settings, tries in drawn(1, 60):
            table = analyse(thing, begin, settings)
            self.confirmed(thing, begin, table, tries)
            told = [(point, kind) for point, kind, _ in faults_in(thing, table)]
            rows = {(point, kind): word for point, kind, word in verdicts(thing, table)}
            for numbers, inputs in tries:
                end, trace = run(thing, numbers, inputs, 250)
                if end[0] == "done":
                    self.assertTrue(contains(result_of(thing, table), end[1]))
                if end[0] == "fault":
                    faults += 1
                    self.assertIn((end[2], end[1]), told)
                    self.assertEqual(witness(thing, [(numbers, inputs)], end[2], end[1], 250), 0)
                reached = [point for point, _ in trace]
                for (point, kind), word in rows.items():
                    if word == "unreached":
                        self.assertNotIn(point, reached)
                    if word == "never":
                        self.assertIsNone(witness(thing, tries, point, kind, 250))
                    if word == "always" and point in reached and end[0] != "open":
                        self.assertEqual(end, ("fault", kind, point))
        self.assertGreater(faults, 20)

    def test_d_one_change_after_another(self):
        changed = 0
        for chance, thing, begin, settings, tries in drawn(2, 25):
            programs, steps = [thing], []
            for _ in range(3):
                if size(programs[-1]) < 120:
                    new, origins = one_split(chance, programs[-1])
                    self.assertIs(is_program(new), True)
                    programs.append(new)
                    steps.append(origins)
            changed += len(steps)
            plain = Settings(gaps=settings.gaps, delay=settings.delay, narrow=settings.narrow, marks=settings.marks)
            table = analyse(programs[-1], begin, plain)
            self.confirmed(programs[-1], begin, table, tries)
            for old, origins in zip(programs[-2::-1], steps[::-1]):
                table = folded(old, origins, table)
                self.assertIs(is_table(old, table), True)
                self.described(old, table, tries)
            # what was folded back, brought together with a new analysis
            wider = go_on(thing, begin, table, plain)
            self.confirmed(thing, begin, wider, tries)
            self.assertIs(tables_within(table, wider), True)
            both = tables_meet(wider, analyse(thing, begin, plain))
            self.confirmed(thing, begin, both, tries)
            self.described(thing, tables_meet(table, both), tries)
            if steps:
                self.runs_are_the_same(thing, programs[-1], steps, tries)
        self.assertGreater(changed, 40)

    def runs_are_the_same(self, thing, new, steps, tries):
        """Each run of a program that was changed in several steps, seen through all of them."""
        for numbers, inputs in tries:
            end, trace = run(new, numbers, inputs, 1000)
            if end[0] == "open":
                continue
            for origins in steps[::-1]:
                trace = [(origins[f][k], frame) for (f, k), frame in trace if origins[f][k] is not None]
                if end[0] != "done":
                    f, k = end[-1]
                    end = end[:-1] + (origins[f][k],)
            self.assertEqual((end, trace), run(thing, numbers, inputs, 1000))

    def test_e_a_session_and_a_table_carried_along(self):
        edits = 0
        for chance, thing, begin, settings, tries in drawn(3, 12):
            talk = Session(thing, begin, settings)
            table = talk.table()
            for _ in range(5):
                old = talk.program()
                g = chance.randrange(len(old))
                function = changed_function(chance, old[g], old)
                if not is_program(old[:g] + (function,) + old[g + 1:]):
                    continue
                edits += 1
                talk.replace(function)
                new = talk.program()
                self.assertEqual(talk.table(), analyse(new, begin, settings))
                self.assertLessEqual(len(talk.computed()), size(new))
                table = go_on(new, begin, carried(old, table, new), settings)
                self.confirmed(new, begin, table, tries)
                self.confirmed(new, begin, tables_meet(table, talk.table()), tries)
                table = tables_meet(table, talk.table())
            while talk.undo():
                self.assertEqual(talk.table(), analyse(talk.program(), begin, settings))
            self.assertTrue(talk == Session(thing, begin, settings))
            self.assertEqual(talk.table(), analyse(thing, begin, settings))
        self.assertGreater(edits, 50)

    def test_b_meets_of_several_tables(self):
        for chance, thing, begin, settings, tries in drawn(4, 25):
            table = analyse(thing, begin, settings)
            for _ in range(3):
                wide = [value_join(value, chance.choice(BEGINS)) for value in begin]
                other = drawn_settings(chance, thing)
                other = Settings(gaps=settings.gaps, delay=other.delay, narrow=other.narrow, marks=other.marks, order=other.order)
                table = tables_meet(table, analyse(thing, wide, other))
                self.confirmed(thing, begin, table, tries)
            self.assertEqual(go_on(thing, begin, table, settings), table)

    def test_f_classes_of_changed_programs(self):
        for chance, thing, begin, _, tries in drawn(5, 30):
            naming = chance.choice(NAMINGS + [drawn_naming(chance)])
            new, _ = one_split(chance, thing)
            for either in (thing, new):
                every = tuple(sorted({name for row in naming[2] for name in row if name is not None}))
                table = sorts_told(either, (every,) * len(begin), naming)
                self.assertIs(sorts_confirmed(either, (every,) * len(begin), naming, table), True)
                for numbers, inputs in tries:
                    for (f, k), frame in run(either, numbers, inputs, 150)[1]:
                        self.assertIs(sorts_cover(naming, table[f][k], frame), True)

    def test_texts_between(self):
        for chance, thing, begin, settings, _ in drawn(6, 10):
            new, _ = one_split(chance, thing)
            for either in (thing, new):
                again = program_in(program_text(either))
                self.assertEqual(analyse(again, begin, settings), analyse(either, begin, settings))
                rows = Session(again, begin).verdicts()
                told = ", ".join(f"{f} {k} {kind} {word}" for (f, k), kind, word in rows) or "none"
                bounds = " ".join("?" if n is None else str(n) for value in begin for n in value[:2])
                if all(value[2] < 2 for value in begin):
                    text = "\n".join([program_text(either), "", ("begin " + bounds).strip(), "verdicts"])
                    self.assertEqual(answers(text), ["done", told])

    def test_confirms_is_no_more_than_it_says(self):
        for _, thing, begin, settings, _ in drawn(7, 20):
            table = analyse(thing, begin, settings)
            nothing = [[None] * points_many(function) for function in thing]
            self.assertIs(confirms(thing, begin, nothing), table[0][0] is None)


if __name__ == "__main__":
    unittest.main()
