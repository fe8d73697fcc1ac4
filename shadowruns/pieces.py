"""PIECES: the VALUEs of the items of an array, a tuple of pairs (end, VALUE)."""

from shadowruns.shapes import as_tuples
from shadowruns.values import contains, joined, value_cut, value_join, value_meet, value_widen, value_within


def same_pieces(n, value):
    """The PIECES of an array of length n all items of which have this VALUE."""
    return ((n, as_tuples(value)),)


def pieces_read(pieces, index):
    """The join of the VALUEs of all items that the index contains; None if it contains none."""
    found = None
    start = 0
    for end, value in as_tuples(pieces):
        if value_cut(index, start, end - 1) is not None:
            found = joined(found, value)
        start = end
    return found


def pieces_write(pieces, index, value):
    """The PIECES after an item that the index contains was set; None if it contains none."""
    items = items_of(as_tuples(pieces))
    reached = value_cut(index, 0, len(items) - 1)
    if reached is None:
        return None
    new = as_tuples(value)
    alone = reached[0] == reached[1]
    return merged([
        (k + 1, written(old, new, alone) if contains(reached, k) else old) for k, old in enumerate(items)
    ])


def pieces_within(one, other):
    """Whether other contains all that one does, item by item."""
    return all([value_within(a, b) for _, a, b in aligned(one, other)])


def pieces_join(one, other):
    """The joins, item by item."""
    return merged([(end, value_join(a, b)) for end, a, b in aligned(one, other)])


def pieces_meet(one, other):
    """The meets, item by item; None if one of them is."""
    found = [(end, value_meet(a, b)) for end, a, b in aligned(one, other)]
    if any([value is None for _, value in found]):
        return None
    return merged(found)


def pieces_widen(one, other, marks):
    """The widened joins between the ends that both have."""
    shared = [end for end, _ in one]
    shared = [end for end, _ in other if end in shared]
    found = []
    left = right = None
    for end, a, b in aligned(one, other):
        left, right = joined(left, a), joined(right, b)
        if end in shared:
            found.append((end, value_widen(left, right, marks)))
            left = right = None
    return merged(found)


def written(old, new, alone):
    """What an item has after it was set, or may have been set if the index has others as well."""
    if alone:
        return new
    return value_join(old, new)


def items_of(pieces):
    """The list of the VALUEs of all items."""
    found = []
    for end, value in pieces:
        found.extend([value] * (end - len(found)))
    return found


def merged(pairs):
    """The PIECES of pairs (end, VALUE), without ends between equal VALUEs."""
    found = []
    for end, value in pairs:
        if found and found[-1][1] == value:
            found.pop()
        found.append((end, value))
    return tuple(found)


def aligned(one, other):
    """The triples of an end and the VALUEs of both PIECES below it, for all ends of both."""
    left, right = as_tuples(one), as_tuples(other)
    found = []
    i = j = 0
    while i < len(left):
        end = min(left[i][0], right[j][0])
        found.append((end, left[i][1], right[j][1]))
        if left[i][0] == end:
            i += 1
        if right[j][0] == end:
            j += 1
    return found
