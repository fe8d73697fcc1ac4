"""The words of [13] and [14], one after the other, over the public functions of values, gaps and pieces."""

from shadowruns.gaps import gaps_bound, gaps_closed, gaps_moved, gaps_without
from shadowruns.limits import GREATEST
from shadowruns.pieces import pieces_read, pieces_write
from shadowruns.programs import variables
from shadowruns.values import single, value_apply, value_meet, value_of

ALL = (-GREATEST, GREATEST, 1, 0)


class Nothing(Exception):
    """There is no state, or no value."""


def some(thing):
    """thing, which must not be None."""
    if thing is None:
        raise Nothing
    return thing


def span(low, high):
    """The value of a span, which may be empty."""
    if low is not None and high is not None and low > high:
        raise Nothing
    return value_of(low, high, 1, 0)


def tightened_by_the_words(state):
    values, gaps, items = some(state)
    if gaps is None:
        return state
    gaps, spans = some(gaps_closed(gaps, [value[:2] for value in values]))
    return tuple(some(value_meet(value, span(*bounds))) for value, bounds in zip(values, spans)), gaps, items


class Words:
    """A tightened copy of a state that an action changes."""

    def __init__(self, function, state):
        self.names = variables(function)
        self.arrays = [name for name, _ in function[2]]
        self.lengths = dict(function[2])
        values, self.gaps, items = tightened_by_the_words(state)
        self.values = dict(zip(self.names, values))
        self.before = dict(self.values)
        self.items = dict(zip(self.arrays, items))

    def state(self):
        return (
            tuple(self.values[name] for name in self.names), self.gaps, tuple(self.items[name] for name in self.arrays))

    def simple(self, e):
        """The variable and the shift, or None."""
        if e[0] == "var":
            return e[1], 0
        if e[0] == "add" and e[1][0] == "var" and e[2][0] == "num":
            return e[1][1], e[2][1]
        if e[0] == "sub" and e[1][0] == "var" and e[2][0] == "num":
            return e[1][1], -e[2][1]
        return None

    def value(self, e):
        if e[0] == "num":
            return single(e[1])
        if e[0] == "var":
            return self.before[e[1]]
        if e[0] == "item":
            return some(pieces_read(self.items[e[1]], self.value(e[2])))
        found = some(value_apply(e[0], self.value(e[1]), self.value(e[2])))
        one, other = self.simple(e[1]), self.simple(e[2])
        if e[0] == "sub" and self.gaps is not None and one and other and one[0] != other[0]:
            i, j = self.names.index(one[0]), self.names.index(other[0])
            above, below = self.gaps[i][j], self.gaps[j][i]
            shift = one[1] - other[1]
            found = some(value_meet(found, span(
                None if below is None else -below + shift, None if above is None else above + shift)))
        return found

    def meet(self, name, value):
        self.values[name] = some(value_meet(self.values[name], value))

    def away(self, simple, n):
        """The simple expression is not n: looked at if n less the shift is a bound of the variable."""
        name, shift = simple
        low, high = self.before[name][:2]
        if low == n - shift:
            self.meet(name, span(n - shift + 1, None))
        elif high == n - shift:
            self.meet(name, span(None, n - shift - 1))

    def near(self, e, f, k):
        """The last sentence for e at most f + k."""
        one, other = self.simple(e), self.simple(f)
        if one and other:
            d = k + other[1] - one[1]
            if one[0] == other[0]:
                if d < 0:
                    raise Nothing
            elif self.gaps is not None:
                self.gaps = gaps_bound(self.gaps, self.names.index(one[0]), self.names.index(other[0]), d)

    def at_most(self, e, f, k):
        v, w = self.value(e), self.value(f)
        if v[0] is not None and w[1] is not None and v[0] > w[1] + k:
            raise Nothing
        one, other = self.simple(e), self.simple(f)
        if one and w[1] is not None:
            self.meet(one[0], span(None, w[1] + k - one[1]))
        if other and v[0] is not None:
            self.meet(other[0], span(v[0] - k - other[1], None))
        self.near(e, f, k)

    def equal(self, e, f):
        v, w = self.value(e), self.value(f)
        some(value_meet(v, w))
        one, other = self.simple(e), self.simple(f)
        if one:
            self.meet(one[0], value_apply("sub", w, single(one[1])))
        if other:
            self.meet(other[0], value_apply("sub", v, single(other[1])))
        self.near(e, f, 0)
        self.near(f, e, 0)

    def unequal(self, e, f):
        v, w = self.value(e), self.value(f)
        if v == w and v[0] is not None and v[0] == v[1]:
            raise Nothing
        one, other = self.simple(e), self.simple(f)
        if one and w[0] is not None and w[0] == w[1]:
            self.away(one, w[0])
        if other and v[0] is not None and v[0] == v[1]:
            self.away(other, v[0])
        if one and one == other:
            raise Nothing

    def give(self, name, value):
        self.values[name] = some(value_meet(value, ALL))

    def set(self, name, e):
        self.give(name, self.value(e))
        simple = self.simple(e)
        if self.gaps is None:
            return
        i = self.names.index(name)
        if simple and simple[0] == name:
            self.gaps = gaps_moved(self.gaps, i, simple[1])
            return
        self.gaps = gaps_without(self.gaps, i)
        if simple:
            j = self.names.index(simple[0])
            self.gaps = gaps_bound(gaps_bound(self.gaps, i, j, simple[1]), j, i, -simple[1])

    def receive(self, name, value):
        self.give(name, value)
        if self.gaps is not None:
            self.gaps = gaps_without(self.gaps, self.names.index(name))

    def act(self, action):
        sign = action[0]
        if sign in ("fail", "stop"):
            raise Nothing
        if sign == "nonzero":
            if self.value(action[1]) == single(0):
                raise Nothing
            if self.simple(action[1]):
                self.away(self.simple(action[1]), 0)
        elif sign == "within":
            last = self.lengths[action[1]] - 1
            some(value_meet(self.value(action[2]), span(0, last)))
            simple = self.simple(action[2])
            if simple:
                self.meet(simple[0], span(-simple[1], last - simple[1]))
        elif sign == "set":
            self.set(action[1], action[2])
        elif sign == "input":
            self.receive(action[1], span(action[2], action[3]))
        elif sign == "put":
            value = some(value_meet(self.value(action[3]), ALL))
            self.items[action[1]] = some(pieces_write(self.items[action[1]], self.value(action[2]), value))
        elif sign in ("when", "unless"):
            kind, e, f = action[1]
            if kind == "equal":
                (self.equal if sign == "when" else self.unequal)(e, f)
            elif sign == "when":
                self.at_most(e, f, -1)
            else:
                self.at_most(f, e, 0)


def transferred_by_the_words(function, state, action):
    try:
        words = Words(function, state)
        words.act(action)
        return tightened_by_the_words(words.state())
    except Nothing:
        return None


def called_by_the_words(program, f, state, action):
    try:
        words = Words(program[f], state)
        return [some(value_meet(words.value(e), ALL)) for e in action[3]]
    except Nothing:
        return None


def returned_by_the_words(program, f, state, action, exit_state):
    try:
        words = Words(program[f], state)
        callee = [function for function in program if function[0] == action[2]][0]
        words.receive(action[1], Words(callee, exit_state).value(callee[4]))
        return tightened_by_the_words(words.state())
    except Nothing:
        return None


def expression_value_by_the_words(function, state, expression):
    try:
        return Words(function, state).value(expression)
    except Nothing:
        return None
