"""VALUEs: the integers that are in a SPAN and in a REST, (low, high, m, r) in one form only."""

from shadowruns.bounds import high_within, lets_in, low_within, tightest_high, tightest_low
from shadowruns.rests import rest_add, rest_div, rest_has, rest_join, rest_meet, rest_mod
from shadowruns.rests import rest_mul, rest_sub, rest_within
from shadowruns.spans import span_add, span_div, span_join, span_meet, span_mod, span_mul, span_sub
from shadowruns.spans import span_widen

EVERY = (None, None, 1, 0)


def single(n):
    """The VALUE of n alone."""
    return (n, n, 0, n)


def value_of(low, high, m, r):
    """The VALUE of the integers from low to high that are in the REST; None if there are none."""
    if m == 0:
        return single(r) if lets_in(low, high, r) else None
    if low is not None:
        low = low + (r - low) % m
    if high is not None:
        high = high - (high - r) % m
    if low is not None and high is not None and low >= high:
        return single(low) if low == high else None
    return (low, high, m, r)


def contains(value, n):
    """Whether a VALUE contains the integer n."""
    return lets_in(value[0], value[1], n) and rest_has(value[2:], n)


def value_within(one, other):
    """Whether the second VALUE contains all integers of the first."""
    if not low_within(one[0], other[0]) or not high_within(one[1], other[1]):
        return False
    return rest_within(one[2:], other[2:])


def value_join(one, other):
    """The least VALUE that contains both."""
    return value_from(span_join(one[:2], other[:2]), rest_join(one[2:], other[2:]))


def value_meet(one, other):
    """The VALUE of the common integers, None if there are none."""
    return value_from(span_meet(one[:2], other[:2]), rest_meet(one[2:], other[2:]))


def value_widen(one, other, marks):
    """The VALUE of the widened SPAN and of the REST of other."""
    return value_from(span_widen(one[:2], other[:2], marks), other[2:])


def value_apply(sign, one, other):
    """A VALUE with all results of an operation; None if there is none.

    Divisors above and below 0 are taken apart: one of both may be a single integer, or have a
    REST of its own.
    """
    if sign not in ("div", "mod"):
        return applied(sign, one, other)
    found = None
    for divisors in (value_cut(other, 1, None), value_cut(other, None, -1)):
        if divisors is not None:
            found = joined(found, applied(sign, one, divisors))
    return found


def value_cut(value, low, high):
    """The VALUE of the integers from low to high in a VALUE; None if there are none."""
    return value_of(tightest_low(value[0], low), tightest_high(value[1], high), value[2], value[3])


def value_from(span, rest):
    """The VALUE of a SPAN and a REST; None if one of them, or what is common, has no integers."""
    if span is None or rest is None:
        return None
    return value_of(span[0], span[1], rest[0], rest[1])


def joined(one, other):
    """The join with what may be None."""
    if one is None:
        return other
    return value_join(one, other)


def applied(sign, one, other):
    """The VALUE of what span_ and rest_ with this sign give."""
    left, right = one[:2], other[:2]
    rest, second = one[2:], other[2:]
    if sign == "add":
        return value_from(span_add(left, right), rest_add(rest, second))
    if sign == "sub":
        return value_from(span_sub(left, right), rest_sub(rest, second))
    if sign == "mul":
        return value_from(span_mul(left, right), rest_mul(rest, second))
    if sign == "div":
        return value_from(span_div(left, right), rest_div(rest, second))
    return value_from(span_mod(left, right), rest_mod(rest, second))
