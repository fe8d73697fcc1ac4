"""STATEs that are tuples throughout: how they begin, are tightened, compared and put together.

None stands for no FRAME at all.
"""

from shadowruns.gaps import gaps_closed, gaps_join, gaps_meet, gaps_widen, gaps_within, no_gaps
from shadowruns.pieces import pieces_join, pieces_meet, pieces_widen, pieces_within, same_pieces
from shadowruns.values import single, value_cut, value_join, value_meet, value_widen, value_within


def begin_state(scope, arguments, has_gaps):
    """The STATE at the beginning of a call, tightened; None without arguments."""
    if arguments is None:
        return None
    others = (single(0),) * (scope.wide - len(arguments))
    items = tuple([same_pieces(length, single(0)) for length in scope.lengths])
    gaps = no_gaps(scope.wide) if has_gaps else None
    return tighten((tuple(arguments) + others, gaps, items))


def tighten(state):
    """The STATE with all that follows from its GAPS and SPANs; itself without GAPS."""
    if state is None or state[1] is None:
        return state
    closed = gaps_closed(state[1], [value[:2] for value in state[0]])
    if closed is None:
        return None
    gaps, spans = closed
    return state_of([value_cut(value, low, high) for value, (low, high) in zip(state[0], spans)], gaps, state[2])


def state_of(values, gaps, items):
    """The STATE of these parts; None if a VALUE or the PIECES of an array are None."""
    if any([value is None for value in values]) or any([pieces is None for pieces in items]):
        return None
    return (tuple(values), gaps, tuple(items))


def within_state(one, other):
    """Whether other describes all FRAMEs that one does, part by part."""
    if one is None or other is None:
        return one is None
    if not all([value_within(a, b) for a, b in zip(one[0], other[0])]):
        return False
    if one[1] is not None and not gaps_within(one[1], other[1]):
        return False
    return all([pieces_within(a, b) for a, b in zip(one[2], other[2])])


def join_states(one, other):
    """The join, part by part."""
    if one is None:
        return other
    if other is None:
        return one
    gaps = None if one[1] is None else gaps_join(one[1], other[1])
    values = [value_join(a, b) for a, b in zip(one[0], other[0])]
    return state_of(values, gaps, [pieces_join(a, b) for a, b in zip(one[2], other[2])])


def meet_states(one, other):
    """The meet, part by part; None if that of a part is."""
    if one is None or other is None:
        return None
    gaps = None if one[1] is None else gaps_meet(one[1], other[1])
    values = [value_meet(a, b) for a, b in zip(one[0], other[0])]
    return state_of(values, gaps, [pieces_meet(a, b) for a, b in zip(one[2], other[2])])


def widen_states(one, other, marks):
    """one, within other, widened part by part."""
    if one is None:
        return other
    gaps = None if one[1] is None else gaps_widen(one[1], other[1])
    values = [value_widen(a, b, marks) for a, b in zip(one[0], other[0])]
    return state_of(values, gaps, [pieces_widen(a, b, marks) for a, b in zip(one[2], other[2])])
