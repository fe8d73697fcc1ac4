"""STATEs after ACTIONs, and at the beginning and the end of calls."""

from shadowruns.assuming import assumed, bounded, is_single, side_of, with_span, with_variable, without
from shadowruns.gaps import gaps_moved, gaps_without
from shadowruns.mixing import tighten
from shadowruns.pieces import pieces_write
from shadowruns.reading import kept_value, not_great, simple_of, value_in
from shadowruns.scopes import replaced
from shadowruns.values import value_cut, value_of


def transfer(scope, state, action):
    """The STATE after an ACTION other than a call."""
    start = tighten(state)
    if start is None:
        return None
    return tighten(acted(scope, start, action))


def acted(scope, state, action):
    """The STATE after an ACTION in a STATE that is tight, not yet tightened."""
    sign = action[0]
    if sign == "nonzero":
        return after_nonzero(scope, state, action[1])
    if sign == "within":
        return after_within(scope, state, action[1], action[2])
    if sign == "set":
        return after_set(scope, state, action[1], action[2])
    if sign == "input":
        return after_input(scope, state, action[1], value_of(action[2], action[3], 1, 0))
    if sign == "put":
        return after_put(scope, state, action)
    if sign in ("when", "unless"):
        return assumed(scope, state, action[1], sign == "when")
    if sign in ("fail", "stop"):
        return None
    return state


def after_nonzero(scope, state, expression):
    """The STATE when an EXPRESSION is not 0."""
    side = side_of(scope, state, expression)
    if side is None or (is_single(side[0]) and side[0][0] == 0):
        return None
    return without(scope, state, state, side, 0)


def after_within(scope, state, array, expression):
    """The STATE when an EXPRESSION is an index of an array."""
    side = side_of(scope, state, expression)
    last = scope.length(array) - 1
    if side is None or value_cut(side[0], 0, last) is None:
        return None
    return with_span(scope, state, side, 0, last)


def after_set(scope, state, name, expression):
    """The STATE when a variable has become an EXPRESSION."""
    found = with_variable(scope, state, name, kept_value(scope, state, expression))
    simple = simple_of(expression)
    if found is None or found[1] is None:
        return found
    if simple is not None and simple[0] == name:
        return (found[0], gaps_moved(found[1], scope.place[name], simple[1]), found[2])
    found = loosened(scope, found, name)
    if simple is None:
        return found
    found = bounded(scope, found, name, simple[0], simple[1])
    return bounded(scope, found, simple[0], name, -simple[1])


def after_input(scope, state, name, value):
    """The STATE when a variable has become anything that is in a VALUE."""
    found = with_variable(scope, state, name, not_great(value))
    if found is None:
        return None
    return loosened(scope, found, name)


def loosened(scope, state, name):
    """The STATE without the GAPS of a variable."""
    values, gaps, items = state
    if gaps is None:
        return state
    return (values, gaps_without(gaps, scope.place[name]), items)


def after_put(scope, state, action):
    """The STATE when an item of an array has become an EXPRESSION."""
    index = value_in(scope, state, action[2])
    value = kept_value(scope, state, action[3])
    if index is None or value is None:
        return None
    values, gaps, items = state
    row = scope.row[action[1]]
    pieces = pieces_write(items[row], index, value)
    if pieces is None:
        return None
    return (values, gaps, replaced(items, row, pieces))


def given_values(scope, state, action):
    """The list of the VALUEs that a call gives to its parameters; None if there are none."""
    start = tighten(state)
    if start is None:
        return None
    found = [kept_value(scope, start, expression) for expression in action[3]]
    if any([value is None for value in found]):
        return None
    return found


def state_behind_call(scope, state, action, callee, exit_state):
    """The STATE at the end of a call, callee being the Scope of the called FUNCTION."""
    start, last = tighten(state), tighten(exit_state)
    if start is None or last is None:
        return None
    value = value_in(callee, last, callee.result)
    if value is None:
        return None
    return tighten(after_input(scope, start, action[1], value))
