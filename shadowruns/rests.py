"""RESTs: (0, r) is the integer r alone, (m, r) all integers that leave r by m, m at least 1."""

from math import gcd


def rest_join(one, other):
    """The least REST that contains both."""
    m, r = one
    n, s = other
    return rest_of(gcd(m, n, r - s), r)


def rest_meet(one, other):
    """The common integers, None if there are none."""
    m, r = one
    n, s = other
    if m == 0:
        return (0, r) if rest_has(other, r) else None
    if n == 0:
        return (0, s) if rest_has(one, s) else None
    g = gcd(m, n)
    if (s - r) % g != 0:
        return None
    times = (s - r) // g * inverse(m // g, n // g)
    return rest_of(m // g * n, r + m * times)


def rest_add(one, other):
    """The least REST that contains all sums."""
    m, r = one
    n, s = other
    return rest_of(gcd(m, n), r + s)


def rest_sub(one, other):
    """The least REST that contains all differences."""
    m, r = one
    n, s = other
    return rest_of(gcd(m, n), r - s)


def rest_mul(one, other):
    """The least REST that contains all products.

    (r + a * m) * (s + b * n) differs from r * s by sums of r * n, s * m and m * n, and by each of
    them for some a and b.
    """
    m, r = one
    n, s = other
    return rest_of(gcd(r * n, s * m, m * n), r * s)


def rest_div(one, other):
    """The least REST of the quotients by a single integer, where it has one; None for 0 alone."""
    m, r = one
    n, d = other
    if n == 0 and d == 0:
        return None
    if n != 0 or m % d != 0:
        return (1, 0)
    return rest_of(abs(m // d), r // d)


def rest_mod(one, other):
    """A REST of the remainders, as [9] tells; None if other is 0 alone."""
    m, r = one
    n, s = other
    if n == 0 and s == 0:
        return None
    if m == 0 and n == 0:
        return (0, r % s)
    return rest_of(gcd(m, n, s), r)


def rest_of(m, n):
    """The REST of the integers that differ from n by what m divides."""
    if m == 0:
        return (0, n)
    return (m, n % m)


def rest_has(rest, n):
    """Whether a REST contains the integer n."""
    m, r = rest
    if m == 0:
        return n == r
    return n % m == r


def rest_within(one, other):
    """Whether the second REST contains all integers of the first."""
    if other[0] == 0:
        return one[0] == 0 and one[1] == other[1]
    return one[0] % other[0] == 0 and rest_has(other, one[1])


def inverse(n, m):
    """What times n leaves 1 by m (0 if m is 1); n and m have no common divisor."""
    high, low = m, n % m
    before, now = 0, 1
    while low != 0:
        times = high // low
        high, low = low, high - times * low
        before, now = now, before - times * now
    return before % m
