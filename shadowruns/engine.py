"""The analysis: TABLEs that describe all runs of a PROGRAM."""

from shadowruns.graph import heads, parts
from shadowruns.kinds import StateKind
from shadowruns.plans import Plan
from shadowruns.rounds import Rounds
from shadowruns.shapes import as_tuples


class Settings:
    """How an analysis is made: whether with GAPS, and how it widens, narrows and visits."""

    def __init__(self, *, gaps=False, delay=2, marks=(), narrow=2, order=()):
        self.gaps = gaps
        self.delay = delay
        self.marks = as_tuples(marks)
        self.narrow = narrow
        self.order = as_tuples(order)

    def __eq__(self, other):
        return (
            isinstance(other, Settings) and self.gaps == other.gaps and self.delay == other.delay
            and self.marks == other.marks and self.narrow == other.narrow and self.order == other.order
        )


def incoming(program, begin, table, point, has_gaps=False):
    """The join of what reaches a POINT; with GAPS if the TABLE has them, or has no STATE and has_gaps."""
    states = as_tuples(table)
    plan = Plan(as_tuples(program), StateKind(with_gaps(states, has_gaps)))
    return plan.reaching(as_tuples(begin), states, as_tuples(point))


def analyse(program, begin, settings=None):
    """A TABLE that describes all runs whose numbers are in the VALUEs of begin."""
    chosen = Settings() if settings is None else settings
    functions = as_tuples(program)
    rounds = Rounds(Plan(functions, StateKind(chosen.gaps)), as_tuples(begin), chosen, heads(functions))
    rounds.tell(parts(functions))
    return rounds.rows


def with_gaps(table, otherwise):
    """Whether the STATEs of a TABLE have GAPS; otherwise if it has no STATE."""
    for row in table:
        for state in row:
            if state is not None:
                return state[1] is not None
    return otherwise
