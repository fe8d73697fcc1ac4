"""VALUEs of EXPRESSIONs in a STATE that is tight, and what an EXPRESSION tells of a variable."""

from shadowruns.bounds import opposite, total
from shadowruns.limits import GREATEST
from shadowruns.pieces import pieces_read
from shadowruns.values import single, value_apply, value_cut


def simple_of(expression):
    """The pair (variable, shift) of a simple EXPRESSION, None of another one."""
    sign = expression[0]
    if sign == "var":
        return (expression[1], 0)
    if sign in ("add", "sub") and expression[1][0] == "var" and expression[2][0] == "num":
        n = expression[2][1]
        return (expression[1][1], n if sign == "add" else -n)
    return None


def value_in(scope, state, expression):
    """The VALUE of an EXPRESSION; None if it has none."""
    sign = expression[0]
    if sign == "num":
        return single(expression[1])
    if sign == "var":
        return state[0][scope.place[expression[1]]]
    if sign == "item":
        index = value_in(scope, state, expression[2])
        if index is None:
            return None
        return pieces_read(state[2][scope.row[expression[1]]], index)
    one = value_in(scope, state, expression[1])
    other = value_in(scope, state, expression[2])
    if one is None or other is None:
        return None
    found = value_apply(sign, one, other)
    if sign == "sub" and state[1] is not None:
        return value_between(scope, state[1], expression, found)
    return found


def value_between(scope, gaps, expression, value):
    """The VALUE of a sub, met with what the GAPS tell if both of its parts are simple."""
    one, other = simple_of(expression[1]), simple_of(expression[2])
    if one is None or other is None or one[0] == other[0]:
        return value
    i, j = scope.place[one[0]], scope.place[other[0]]
    shift = one[1] - other[1]
    return value_cut(value, total(opposite(gaps[j][i]), shift), total(gaps[i][j], shift))


def kept_value(scope, state, expression):
    """The VALUE of an EXPRESSION as far as a variable, an item or a parameter can have it."""
    value = value_in(scope, state, expression)
    if value is None:
        return None
    return not_great(value)


def not_great(value):
    """The integers from -GREATEST to GREATEST in a VALUE; None if there are none."""
    return value_cut(value, -GREATEST, GREATEST)
