"""What is known in a STATE that is tight when an ATOM, or what guards an EXPRESSION, holds.

A side is an EXPRESSION with its VALUE: (VALUE, variable, shift); the variable is None if the
EXPRESSION is not simple.
"""

from shadowruns.bounds import total
from shadowruns.gaps import gaps_bound
from shadowruns.reading import simple_of, value_in
from shadowruns.scopes import replaced
from shadowruns.values import single, value_apply, value_cut, value_meet


def side_of(scope, state, expression):
    """The side of an EXPRESSION; None if it has no VALUE."""
    value = value_in(scope, state, expression)
    if value is None:
        return None
    simple = simple_of(expression)
    if simple is None:
        return (value, None, 0)
    return (value, simple[0], simple[1])


def assumed(scope, state, atom, truth):
    """The STATE when an ATOM is true, or is false; None if it never is."""
    one, other = side_of(scope, state, atom[1]), side_of(scope, state, atom[2])
    if one is None or other is None:
        return None
    if atom[0] == "less":
        if truth:
            return at_most(scope, state, one, other, -1)
        return at_most(scope, state, other, one, 0)
    if truth:
        return alike(scope, state, one, other)
    return unlike(scope, state, one, other)


def at_most(scope, state, one, other, k):
    """The STATE when the one side is at most the other plus k."""
    most = total(other[0][1], k)
    least = total(one[0][0], -k)
    if least is not None and other[0][1] is not None and least > other[0][1]:
        return None
    found = with_span(scope, state, one, None, most)
    found = with_span(scope, found, other, least, None)
    return with_gap(scope, found, one, other, k)


def alike(scope, state, one, other):
    """The STATE when both sides are equal."""
    if value_meet(one[0], other[0]) is None:
        return None
    found = with_value(scope, state, one, other[0])
    found = with_value(scope, found, other, one[0])
    found = with_gap(scope, found, one, other, 0)
    return with_gap(scope, found, other, one, 0)


def unlike(scope, state, one, other):
    """The STATE when both sides are not equal."""
    same = one[1] is not None and one[1:] == other[1:]
    if same or (one[0] == other[0] and is_single(one[0])):
        return None
    found = state
    if is_single(other[0]):
        found = without(scope, state, found, one, other[0][0])
    if is_single(one[0]):
        found = without(scope, state, found, other, one[0][0])
    return found


def is_single(value):
    """Whether a VALUE contains one integer alone."""
    return value[2] == 0


def without(scope, state, found, side, n):
    """found when the side is not n, if that moves a bound that the variable has in the STATE."""
    if side[1] is None:
        return found
    low, high = state[0][scope.place[side[1]]][:2]
    if low == n - side[2]:
        return with_span(scope, found, side, n + 1, None)
    if high == n - side[2]:
        return with_span(scope, found, side, None, n - 1)
    return found


def with_span(scope, state, side, low, high):
    """The STATE when the side lies from low to high: this is used if it is simple."""
    if state is None or side[1] is None:
        return state
    value = state[0][scope.place[side[1]]]
    return with_variable(scope, state, side[1], value_cut(value, total(low, -side[2]), total(high, -side[2])))


def with_value(scope, state, side, value):
    """The STATE when the side is in a VALUE: this is used if it is simple."""
    if state is None or side[1] is None:
        return state
    moved = value_apply("sub", value, single(side[2]))
    return with_variable(scope, state, side[1], value_meet(state[0][scope.place[side[1]]], moved))


def with_variable(scope, state, name, value):
    """The STATE with another VALUE of a variable; None if that is None."""
    if value is None:
        return None
    return (replaced(state[0], scope.place[name], value), state[1], state[2])


def with_gap(scope, state, one, other, k):
    """The STATE when the one side is at most the other plus k, as its variables show it."""
    if state is None or one[1] is None or other[1] is None:
        return state
    most = k + other[2] - one[2]
    if one[1] == other[1]:
        return None if most < 0 else state
    return bounded(scope, state, one[1], other[1], most)


def bounded(scope, state, x, y, most):
    """The STATE when the variable x less the variable y is at most this."""
    values, gaps, items = state
    if gaps is None:
        return state
    return (values, gaps_bound(gaps, scope.place[x], scope.place[y], most), items)
