"""TABLEs carried over to changed PROGRAMs."""

from shadowruns.engine import Settings, with_gaps
from shadowruns.graph import heads, points_many
from shadowruns.kinds import StateKind
from shadowruns.plans import Plan
from shadowruns.rounds import Rounds
from shadowruns.shapes import as_tuples


def carried(old, table, program):
    """A TABLE of the PROGRAM with the STATEs of the FUNCTIONs that stand in the old one, too."""
    kept = {function[0]: (function, row) for function, row in zip(as_tuples(old), as_tuples(table))}
    found = []
    for function in as_tuples(program):
        before, row = kept.get(function[0], (None, ()))
        if before == function:
            found.append(list(row))
        else:
            found.append([None] * points_many(function))
    return found


def go_on(program, begin, table, settings=None):
    """A TABLE that is confirmed and contains this one: all its POINTs are one part, without narrowing."""
    chosen = Settings() if settings is None else settings
    functions = as_tuples(program)
    states = as_tuples(table)
    kind = StateKind(with_gaps(states, chosen.gaps))
    rounds = Rounds(Plan(functions, kind), as_tuples(begin), chosen, heads(functions))
    rounds.rows = [list(row) for row in states]
    rounds.ascend(rounds.in_order([(f, k) for f, row in enumerate(states) for k in range(len(row))]))
    return rounds.rows
