"""Classes of integers that the user chooses, and tables of them."""

from shadowruns.cells import Cells, has_naming_form
from shadowruns.engine import Settings
from shadowruns.graph import parts
from shadowruns.plans import Plan
from shadowruns.rounds import Rounds
from shadowruns.shapes import as_tuples
from shadowruns.sorting import SortKind


def is_naming(thing):
    """Whether thing is a NAMING."""
    return has_naming_form(thing)


def classes(naming):
    """The ascending list of all classes."""
    return sorted(set([name for row in as_tuples(naming)[2] for name in row if name is not None]))


def class_of(naming, n):
    """The class of an integer."""
    return Cells(as_tuples(naming)).class_of(n)


def value_of_sort(naming, sort):
    """The least VALUE that contains a SORT; None for ()."""
    return Cells(as_tuples(naming)).whole(as_tuples(sort))


def classes_meeting(naming, value):
    """The SORT of the classes with an integer in a VALUE."""
    return Cells(as_tuples(naming)).meeting(as_tuples(value))


def sort_apply(naming, sign, one, other):
    """The SORT of the results of an operation."""
    return Cells(as_tuples(naming)).applied(sign, as_tuples(one), as_tuples(other))


def sorts_told(program, begin, naming):
    """A list of lists of SORT STATEs, like a TABLE, that describe all runs with numbers in begin."""
    functions = as_tuples(program)
    plan = Plan(functions, SortKind(Cells(as_tuples(naming))))
    # without heads and narrowing there are ascending rounds alone
    rounds = Rounds(plan, as_tuples(begin), Settings(narrow=0), ())
    rounds.tell(parts(functions))
    return rounds.rows


def sorts_confirmed(program, begin, naming, table):
    """Whether such a table is confirmed: then it describes all runs with numbers in begin."""
    plan = Plan(as_tuples(program), SortKind(Cells(as_tuples(naming))))
    return plan.first_break(as_tuples(begin), as_tuples(table)) is None


def sorts_cover(naming, sort_state, frame):
    """Whether a SORT STATE, or None, describes a FRAME."""
    if sort_state is None:
        return False
    cells = Cells(as_tuples(naming))
    sorts, rows = sort_state
    numbers, items = frame
    if not all([cells.class_of(n) in sort for n, sort in zip(numbers, sorts)]):
        return False
    return all([cells.class_of(n) in sort for row, sort in zip(items, rows) for n in row])
