"""Bounds of integers, low ones and high ones: each is an integer or None, which is no bound."""


def loosest_low(one, other):
    """The low bound that leaves out nothing that one of both lets in."""
    if one is None or other is None:
        return None
    return min(one, other)


def tightest_low(one, other):
    """The low bound that lets in what both let in."""
    if one is None:
        return other
    if other is None:
        return one
    return max(one, other)


def loosest_high(one, other):
    """The high bound that leaves out nothing that one of both lets in."""
    if one is None or other is None:
        return None
    return max(one, other)


def tightest_high(one, other):
    """The high bound that lets in what both let in."""
    if one is None:
        return other
    if other is None:
        return one
    return min(one, other)


def low_within(one, other):
    """Whether the low bound other lets in all that the low bound one does."""
    return other is None or (one is not None and one >= other)


def high_within(one, other):
    """Whether the high bound other lets in all that the high bound one does."""
    return other is None or (one is not None and one <= other)


def lets_in(low, high, n):
    """Whether the integer n keeps both bounds."""
    return low_within(n, low) and high_within(n, high)


def total(one, other):
    """The sum of two bounds of one side."""
    if one is None or other is None:
        return None
    return one + other


def opposite(bound):
    """The bound of the negatives, on the other side."""
    if bound is None:
        return None
    return -bound
