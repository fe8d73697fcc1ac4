"""STATEs as a kind of descriptions: all that plans and rounds need to do with them."""

from shadowruns.acting import given_values, state_behind_call, transfer
from shadowruns.mixing import begin_state, join_states, meet_states, widen_states, within_state
from shadowruns.reading import not_great


class StateKind:
    """STATEs that have GAPS, or that have none."""

    def __init__(self, has_gaps):
        self.has_gaps = has_gaps

    def first_arguments(self, begin):
        """The VALUEs of begin as far as parameters can have them; None if one has no integers left."""
        found = [not_great(value) for value in begin]
        if any([value is None for value in found]):
            return None
        return found

    def begun(self, scope, arguments):
        """The STATE at the entry of a FUNCTION; None without arguments."""
        return begin_state(scope, arguments, self.has_gaps)

    def after(self, scope, state, action):
        """The STATE after an ACTION other than a call."""
        return transfer(scope, state, action)

    def given(self, scope, state, action):
        """The arguments that a call gives; None if there are none."""
        return given_values(scope, state, action)

    def behind(self, scope, state, action, callee, last):
        """The STATE at the end of a call, last being that at the exit of the called FUNCTION."""
        return state_behind_call(scope, state, action, callee, last)

    def inside(self, one, other):
        """Whether the second STATE describes all that the first does."""
        return within_state(one, other)

    def both(self, one, other):
        """The join."""
        return join_states(one, other)

    def common(self, one, other):
        """The meet."""
        return meet_states(one, other)

    def widened(self, one, other, marks):
        """one, within other, widened."""
        return widen_states(one, other, marks)
