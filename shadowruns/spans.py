"""SPANs: all integers from a low to a high bound, a pair of integers or None (no bound)."""

from shadowruns.bounds import high_within, loosest_high, loosest_low, low_within, opposite
from shadowruns.bounds import tightest_high, tightest_low, total


def span_join(one, other):
    """The least SPAN that contains both."""
    return (loosest_low(one[0], other[0]), loosest_high(one[1], other[1]))


def span_meet(one, other):
    """The common integers, None if there are none."""
    low = tightest_low(one[0], other[0])
    high = tightest_high(one[1], other[1])
    if low is not None and high is not None and low > high:
        return None
    return (low, high)


def span_add(one, other):
    """The least SPAN that contains all sums."""
    return (total(one[0], other[0]), total(one[1], other[1]))


def span_sub(one, other):
    """The least SPAN that contains all differences."""
    return span_add(one, negatives(other))


def span_mul(one, other):
    """The least SPAN that contains all products."""
    corners = [times(a, b) for a in ends(one) for b in ends(other)]
    return (bound_of(min(corners)), bound_of(max(corners)))


def span_div(one, other):
    """The least SPAN that contains all quotients; None if other contains 0 alone."""
    above, below = without_zero(other)
    found = None
    if above is not None:
        found = quotients(one, above)
    if below is not None:
        found = joined(found, quotients(negatives(one), negatives(below)))
    return found


def span_mod(one, other):
    """A SPAN that contains all remainders, as [8] tells; None if other contains 0 alone."""
    above, below = without_zero(other)
    found = None
    if above is not None:
        found = remainders(one, above)
    if below is not None:
        found = joined(found, negatives(remainders(negatives(one), negatives(below))))
    return found


def span_widen(one, other, marks):
    """one, but with marks, or no bounds, in place of the bounds that other passes."""
    low, high = one
    if not low_within(other[0], low):
        low = max([mark for mark in marks if low_within(other[0], mark)], default=None)
    if not high_within(other[1], high):
        high = min([mark for mark in marks if high_within(other[1], mark)], default=None)
    return (low, high)


def negatives(span):
    """The SPAN of the negatives."""
    return (opposite(span[1]), opposite(span[0]))


def without_zero(span):
    """The SPAN of the integers above 0 and that of those below 0, None where there are none."""
    return span_meet(span, (1, None)), span_meet(span, (None, -1))


def joined(one, other):
    """The join with what may be None."""
    if one is None:
        return other
    return span_join(one, other)


def ends(span):
    """Both bounds as pairs that compare: (-1, 0) and (1, 0) lie beyond all integers (0, n)."""
    low = (-1, 0) if span[0] is None else (0, span[0])
    high = (1, 0) if span[1] is None else (0, span[1])
    return [low, high]


def bound_of(place):
    """The bound that such a pair stands for."""
    return place[1] if place[0] == 0 else None


def direction(place):
    """-1, 0 or 1 for a pair that lies below, at or above 0."""
    if place == (0, 0):
        return 0
    return 1 if place > (0, 0) else -1


def times(one, other):
    """The pair of the product of two bounds; 0 times no bound is 0, since no integer is endless."""
    if one[0] == 0 and other[0] == 0:
        return (0, one[1] * other[1])
    return (direction(one) * direction(other), 0)


def quotients(span, divisors):
    """The least SPAN that contains all quotients by divisors above 0.

    Greater divisors bring a quotient nearer to 0 from above and nearer to -1 from below.
    """
    low, high = span
    least, most = divisors
    if low is not None:
        low = quotient(low, most) if low >= 0 else low // least
    if high is not None:
        high = high // least if high >= 0 else quotient(high, most)
    return (low, high)


def quotient(n, divisor):
    """n by a divisor above 0; None stands for one that is great enough."""
    if divisor is None:
        return 0 if n >= 0 else -1
    return n // divisor


def remainders(span, divisors):
    """The three cases of [8] for divisors above 0."""
    low, high = span
    least, most = divisors
    known = low is not None and high is not None
    if known and least == most and low // least == high // least:
        return (low % least, high % least)
    positive = low is not None and low >= 0
    if positive and high is not None and high < least:
        return (low, high)
    top = None if most is None else most - 1
    if positive:
        top = tightest_high(top, high)
    return (0, top)
