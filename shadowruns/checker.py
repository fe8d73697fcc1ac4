"""The checker: whether a TABLE describes all runs, wherever it comes from."""

from shadowruns.engine import with_gaps
from shadowruns.forms import has_table_form
from shadowruns.graph import exit_of, points_many
from shadowruns.kinds import StateKind
from shadowruns.mixing import meet_states, within_state
from shadowruns.plans import Plan
from shadowruns.scopes import Scope
from shadowruns.shapes import as_tuples
from shadowruns.states import covers, expression_value


def is_table(program, thing):
    """Whether thing is a TABLE of the PROGRAM."""
    functions = as_tuples(program)
    sizes = [points_many(function) for function in functions]
    return has_table_form(thing, [Scope(function) for function in functions], sizes)


def confirms(program, begin, table):
    """Whether the TABLE is confirmed: then it describes all runs with numbers in begin."""
    return first_break(program, begin, table) is None


def first_break(program, begin, table):
    """The least POINT with a STATE that does not hold all that reaches it; None without one."""
    states = as_tuples(table)
    plan = Plan(as_tuples(program), StateKind(with_gaps(states, False)))
    return plan.first_break(as_tuples(begin), states)


def tables_meet(one, other):
    """The TABLE of the meets, POINT by POINT."""
    return [[meet_states(a, b) for a, b in zip(*rows)] for rows in zip(as_tuples(one), as_tuples(other))]


def tables_within(one, other):
    """Whether each STATE of one is within that of other."""
    pairs = [(a, b) for rows in zip(as_tuples(one), as_tuples(other)) for a, b in zip(*rows)]
    return all([within_state(a, b) for a, b in pairs])


def first_outside(program, table, trace):
    """The index of the first pair of a trace that the TABLE does not describe; None without one."""
    functions = as_tuples(program)
    for k, ((f, point), frame) in enumerate(trace):
        if not covers(functions[f], table[f][point], frame):
            return k
    return None


def result_of(program, table):
    """The VALUE of the result of main; None if no run gets to its exit."""
    main = as_tuples(program)[0]
    return expression_value(main, table[0][exit_of(main)], main[4])
