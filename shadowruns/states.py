"""STATEs: what is known of the variables and arrays of a FUNCTION at a point."""

from shadowruns.acting import given_values, state_behind_call, transfer
from shadowruns.mixing import begin_state, join_states, meet_states, tighten, widen_states, within_state
from shadowruns.pieces import items_of
from shadowruns.reading import value_in
from shadowruns.scopes import Scope
from shadowruns.shapes import as_tuples
from shadowruns.values import contains


def entry_state(function, values, has_gaps):
    """The STATE at the beginning of a call with arguments in these VALUEs."""
    return begin_state(Scope(as_tuples(function)), as_tuples(values), has_gaps)


def covers(function, state, frame):
    """Whether a STATE, or None, describes a FRAME of the FUNCTION."""
    if state is None:
        return False
    values, gaps, items = as_tuples(state)
    numbers, rows = frame
    if not all([contains(value, n) for value, n in zip(values, numbers)]):
        return False
    if gaps is not None and not gaps_hold(gaps, numbers):
        return False
    return all([
        contains(value, n) for pieces, row in zip(items, rows) for value, n in zip(items_of(pieces), row)
    ])


def gaps_hold(gaps, numbers):
    """Whether all differences of these numbers are at most their bounds."""
    for one, row in zip(numbers, gaps):
        for other, bound in zip(numbers, row):
            if bound is not None and one - other > bound:
                return False
    return True


def tightened(state):
    """The STATE with all that follows from its GAPS and SPANs, worked out once."""
    return tighten(as_tuples(state))


def state_within(one, other):
    """Whether other describes all that one does, part by part."""
    return within_state(as_tuples(one), as_tuples(other))


def state_join(one, other):
    """The join, part by part."""
    return join_states(as_tuples(one), as_tuples(other))


def state_meet(one, other):
    """The meet, part by part; None if that of a part is."""
    return meet_states(as_tuples(one), as_tuples(other))


def state_widen(one, other, marks):
    """one, within other, widened part by part."""
    return widen_states(as_tuples(one), as_tuples(other), marks)


def expression_value(function, state, expression):
    """The VALUE of an EXPRESSION in a STATE; None if it has none."""
    start = tighten(as_tuples(state))
    if start is None:
        return None
    return value_in(Scope(as_tuples(function)), start, as_tuples(expression))


def transferred(function, state, action):
    """The STATE after an ACTION other than a call."""
    return transfer(Scope(as_tuples(function)), as_tuples(state), as_tuples(action))


def called(program, f, state, action):
    """The list of the VALUEs that a call in the FUNCTION f gives to the parameters, or None."""
    return given_values(Scope(as_tuples(program)[f]), as_tuples(state), as_tuples(action))


def returned(program, f, state, action, exit_state):
    """The STATE at the end of a call in the FUNCTION f, from those at its beginning and at the exit."""
    functions = as_tuples(program)
    call = as_tuples(action)
    callee = [function for function in functions if function[0] == call[2]][0]
    scope = Scope(functions[f])
    return state_behind_call(scope, as_tuples(state), call, Scope(callee), as_tuples(exit_state))
