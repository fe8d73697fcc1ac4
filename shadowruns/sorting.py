"""SORT STATEs as a kind of descriptions: all that plans and rounds need to do with them.

A SORT STATE is a pair of the SORTs of the variables and those of the arrays; None is no FRAME at all.
"""

from shadowruns.cells import as_sort
from shadowruns.scopes import replaced
from shadowruns.values import single, value_of


class SortKind:
    """SORT STATEs of the classes of one NAMING."""

    def __init__(self, cells):
        self.cells = cells

    def first_arguments(self, begin):
        """The SORTs of begin."""
        return begin

    def begun(self, scope, arguments):
        """The SORT STATE at the entry of a FUNCTION; None without arguments."""
        if arguments is None:
            return None
        zero = (self.cells.class_of(0),)
        others = (zero,) * (scope.wide - len(arguments))
        return (tuple(arguments) + others, (zero,) * len(scope.lengths))

    def after(self, scope, state, action):
        """The SORT STATE after an ACTION other than a call."""
        sign = action[0]
        if state is None or sign in ("fail", "stop"):
            return None
        if sign == "nonzero":
            return self.after_nonzero(scope, state, action[1])
        if sign in ("when", "unless"):
            return self.assumed(scope, state, action[1], sign == "when")
        if sign == "set":
            return with_sort(scope, state, action[1], self.sort_in(scope, state, action[2]))
        if sign == "input":
            return with_sort(scope, state, action[1], self.cells.meeting(value_of(action[2], action[3], 1, 0)))
        if sign == "put":
            return with_item(scope, state, action[1], self.sort_in(scope, state, action[3]))
        return state

    def given(self, scope, state, action):
        """The SORTs that a call gives to the parameters; None if there are none."""
        if state is None:
            return None
        found = [self.sort_in(scope, state, expression) for expression in action[3]]
        if () in found:
            return None
        return found

    def behind(self, scope, state, action, callee, last):
        """The SORT STATE at the end of a call, last being that at the exit of the called FUNCTION."""
        if state is None or last is None:
            return None
        return with_sort(scope, state, action[1], self.sort_in(callee, last, callee.result))

    def inside(self, one, other):
        """Whether the second SORT STATE contains the first, SORT by SORT."""
        if one is None or other is None:
            return one is None
        pairs = [pair for rows in zip(one, other) for pair in zip(*rows)]
        return all([name in right for left, right in pairs for name in left])

    def both(self, one, other):
        """The union, SORT by SORT."""
        if one is None:
            return other
        if other is None:
            return one
        return tuple([tuple([as_sort(a + b) for a, b in zip(*rows)]) for rows in zip(one, other)])

    def sort_in(self, scope, state, expression):
        """The SORT of an EXPRESSION."""
        sign = expression[0]
        if sign == "num":
            return (self.cells.class_of(expression[1]),)
        if sign == "var":
            return state[0][scope.place[expression[1]]]
        if sign == "item":
            return state[1][scope.row[expression[1]]]
        one = self.sort_in(scope, state, expression[1])
        other = self.sort_in(scope, state, expression[2])
        return self.cells.applied(sign, one, other)

    def after_nonzero(self, scope, state, expression):
        """The SORT STATE when an EXPRESSION is not 0."""
        sort = self.sort_in(scope, state, expression)
        kept = [name for name in sort if self.cells.whole((name,)) != single(0)]
        return kept_in(scope, state, expression, kept)

    def assumed(self, scope, state, atom, truth):
        """The SORT STATE when an ATOM is true, or is false; None if it never is."""
        sign, left, right = atom
        one, other = self.sort_in(scope, state, left), self.sort_in(scope, state, right)
        stay = [name for name in one if self.may_be(sign, truth, (name,), other)]
        keep = [name for name in other if self.may_be(sign, truth, one, (name,))]
        if left == right and left[0] == "var":
            stay = [name for name in stay if name in keep]
            keep = stay
        return kept_in(scope, kept_in(scope, state, left, stay), right, keep)

    def may_be(self, sign, truth, one, other):
        """Whether an ATOM is true, or is false, for some integer of one SORT and some of the other."""
        first, second = self.cells.whole(one), self.cells.whole(other)
        if first is None or second is None:
            return False
        if sign == "less":
            if truth:
                return may_be_less(first, second, 0)
            return may_be_less(second, first, 1)
        if truth:
            return any([name in other for name in one])
        return first != second or first[2] != 0


def may_be_less(one, other, k):
    """Whether some integer of a VALUE is less than some of another one plus k.

    The bounds that the VALUEs have must be among the integers that count.
    """
    return one[0] is None or other[1] is None or one[0] < other[1] + k


def with_sort(scope, state, name, sort):
    """The SORT STATE with another SORT of a variable; None if that is empty."""
    if len(sort) == 0:
        return None
    return (replaced(state[0], scope.place[name], sort), state[1])


def with_item(scope, state, array, sort):
    """The SORT STATE when an item of an array may have a SORT as well; None if that is empty."""
    if len(sort) == 0:
        return None
    row = scope.row[array]
    return (state[0], replaced(state[1], row, as_sort(state[1][row] + sort)))


def kept_in(scope, state, expression, names):
    """The SORT STATE when an EXPRESSION has only these classes: this is used if it is a variable."""
    if state is None or len(names) == 0:
        return None
    if expression[0] != "var":
        return state
    return with_sort(scope, state, expression[1], tuple(names))
