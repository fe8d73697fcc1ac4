"""GAPS: for each two variables a bound of their difference, or None. Only gaps_closed closes."""

from shadowruns.bounds import high_within, loosest_high, opposite, tightest_high, total


def no_gaps(k):
    """The GAPS of k variables that say nothing."""
    return tuple([tuple([0 if j == i else None for j in range(k)]) for i in range(k)])


def gaps_closed(gaps, spans):
    """A pair (GAPS, spans) of the least bounds that follow; None if no integers fulfil them."""
    many = len(spans)
    ways = with_zero(gaps, spans)
    shorten(ways)
    if any([ways[i][i] < 0 for i in range(many + 1)]):
        return None
    closed = tuple([tuple(ways[i][:many]) for i in range(many)])
    return (closed, [(opposite(ways[many][i]), ways[i][many]) for i in range(many)])


def gaps_within(one, other):
    """Whether each bound of one is at most that of other."""
    return all([high_within(a, b) for left, right in zip(one, other) for a, b in zip(left, right)])


def gaps_join(one, other):
    """The greater bound of both everywhere."""
    return tuple([tuple([loosest_high(a, b) for a, b in zip(*rows)]) for rows in zip(one, other)])


def gaps_meet(one, other):
    """The lesser bound of both everywhere."""
    return tuple([tuple([tightest_high(a, b) for a, b in zip(*rows)]) for rows in zip(one, other)])


def gaps_widen(one, other):
    """one without the bounds that other passes."""
    return tuple([
        tuple([a if high_within(b, a) else None for a, b in zip(*rows)]) for rows in zip(one, other)
    ])


def gaps_without(gaps, i):
    """The GAPS without all bounds between the variable i and others."""
    return tuple([
        tuple([bound if a == b or i not in (a, b) else None for b, bound in enumerate(row)])
        for a, row in enumerate(gaps)
    ])


def gaps_moved(gaps, i, n):
    """The GAPS when n is added to the variable i."""
    moves = [n if k == i else 0 for k in range(len(gaps))]
    return tuple([
        tuple([total(bound, moves[a] - moves[b]) for b, bound in enumerate(row)])
        for a, row in enumerate(gaps)
    ])


def gaps_bound(gaps, i, j, n):
    """The GAPS when the variable i less the variable j is at most n, too."""
    return tuple([
        tuple([tightest_high(bound, n) if (a, b) == (i, j) else bound for b, bound in enumerate(row)])
        for a, row in enumerate(gaps)
    ])


def with_zero(gaps, spans):
    """The bounds as lists, with a further variable that is 0: its differences are the SPANs."""
    ways = [list(row) + [span[1]] for row, span in zip(gaps, spans)]
    ways.append([opposite(span[0]) for span in spans] + [0])
    return ways


def shorten(ways):
    """Makes each bound the least sum of bounds along a way from one variable to the other.

    If some ring has a sum below 0, the diagonal has a number below 0 in the end.
    """
    many = range(len(ways))
    for via in many:
        onward = ways[via]
        for i in many:
            row = ways[i]
            if row[via] is None:
                continue
            for j in many:
                if onward[j] is not None and (row[j] is None or row[via] + onward[j] < row[j]):
                    row[j] = row[via] + onward[j]
