"""Whether a thing, which may be anything, has the form of a TABLE and of its parts."""

from shadowruns.grammar import are_bounds
from shadowruns.shapes import is_whole
from shadowruns.values import value_of


def is_tuple_of(thing, many):
    """Whether thing is a tuple of so many items."""
    return isinstance(thing, tuple) and len(thing) == many


def is_list_of(thing, many):
    """Whether thing is a list of so many items."""
    return isinstance(thing, list) and len(thing) == many


def has_table_form(thing, scopes, sizes):
    """Whether thing is a TABLE of a PROGRAM with these Scopes and numbers of points."""
    if not is_list_of(thing, len(sizes)):
        return False
    if not all([is_list_of(row, many) for row, many in zip(thing, sizes)]):
        return False
    pairs = [(state, scope) for row, scope in zip(thing, scopes) for state in row if state is not None]
    if not all([is_state(state, scope) for state, scope in pairs]):
        return False
    gapless = [state[1] is None for state, _ in pairs]
    return all(gapless) or not any(gapless)


def is_state(thing, scope):
    """Whether thing is a STATE of the FUNCTION with this Scope."""
    if not is_tuple_of(thing, 3):
        return False
    values, gaps, items = thing
    if not is_tuple_of(values, scope.wide) or not all([is_value(value) for value in values]):
        return False
    if gaps is not None and not are_gaps(gaps, scope.wide):
        return False
    if not is_tuple_of(items, len(scope.lengths)):
        return False
    return all([are_pieces(pieces, length) for pieces, length in zip(items, scope.lengths)])


def is_value(thing):
    """Whether thing is a VALUE, in the only form that its integers have."""
    if not is_tuple_of(thing, 4):
        return False
    low, high, m, r = thing
    if not are_bounds(low, high) or not is_whole(m) or not is_whole(r):
        return False
    if m < 0 or (m > 0 and (r < 0 or r >= m)):
        return False
    return value_of(low, high, m, r) == thing


def are_gaps(thing, wide):
    """Whether thing are GAPS of so many variables."""
    if not is_tuple_of(thing, wide) or not all([is_tuple_of(row, wide) for row in thing]):
        return False
    if not all([bound is None or is_whole(bound) for row in thing for bound in row]):
        return False
    return all([thing[i][i] == 0 for i in range(wide)])


def are_pieces(thing, length):
    """Whether thing are PIECES of an array of this length."""
    if not isinstance(thing, tuple) or not all([is_piece(pair) for pair in thing]):
        return False
    if len(thing) == 0 or thing[0][0] < 1 or thing[-1][0] != length:
        return False
    return all([ahead[0] < pair[0] and ahead[1] != pair[1] for ahead, pair in zip(thing, thing[1:])])


def is_piece(thing):
    """Whether thing is a pair of an end and a VALUE."""
    return is_tuple_of(thing, 2) and is_whole(thing[0]) and is_value(thing[1])
