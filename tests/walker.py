"""Runs of programs by another way: along their statements, without points. It knows ends only."""

from shadowruns.limits import GREATEST
from shadowruns.programs import variables


class End(Exception):
    """The end of a run."""


class Walker:
    """A run of a program that comes to an end."""

    def __init__(self, program, inputs):
        self.functions = {function[0]: function for function in program}
        self.inputs = list(inputs)

    def kept(self, n):
        if abs(n) > GREATEST:
            raise End("great")
        return n

    def value(self, e, numbers, arrays):
        sign = e[0]
        if sign == "num":
            return e[1]
        if sign == "var":
            return numbers[e[1]]
        if sign == "item":
            return arrays[e[1]][self.index(e[1], e[2], numbers, arrays)]
        one, other = self.value(e[1], numbers, arrays), self.value(e[2], numbers, arrays)
        if sign in ("div", "mod") and other == 0:
            raise End("fault", "division")
        return {
            "add": lambda: one + other, "sub": lambda: one - other, "mul": lambda: one * other,
            "div": lambda: one // other, "mod": lambda: one % other,
        }[sign]()

    def index(self, array, e, numbers, arrays):
        index = self.value(e, numbers, arrays)
        if not 0 <= index < len(arrays[array]):
            raise End("fault", "index")
        return index

    def truth(self, c, numbers, arrays):
        if c[0] == "not":
            return not self.truth(c[1], numbers, arrays)
        if c[0] == "and":
            return self.truth(c[1], numbers, arrays) and self.truth(c[2], numbers, arrays)
        if c[0] == "or":
            return self.truth(c[1], numbers, arrays) or self.truth(c[2], numbers, arrays)
        one, other = self.value(c[1], numbers, arrays), self.value(c[2], numbers, arrays)
        return one < other if c[0] == "less" else one == other

    def block(self, statements, numbers, arrays):
        for statement in statements:
            self.one(statement, numbers, arrays)

    def one(self, s, numbers, arrays):
        sign = s[0]
        if sign == "set":
            numbers[s[1]] = self.kept(self.value(s[2], numbers, arrays))
        elif sign == "put":
            # the guards of the index and of the item come ahead of the index itself
            self.value(s[2], numbers, arrays)
            n = self.value(s[3], numbers, arrays)
            at = self.index(s[1], s[2], numbers, arrays)
            arrays[s[1]][at] = self.kept(n)
        elif sign == "input":
            if not self.inputs or (s[2] is not None and self.inputs[0] < s[2]) or (
                    s[3] is not None and self.inputs[0] > s[3]):
                raise End("inputs")
            numbers[s[1]] = self.kept(self.inputs.pop(0))
        elif sign == "if":
            self.block(s[2] if self.truth(s[1], numbers, arrays) else s[3], numbers, arrays)
        elif sign == "while":
            while self.truth(s[1], numbers, arrays):
                self.block(s[2], numbers, arrays)
        elif sign == "call":
            given = [self.value(e, numbers, arrays) for e in s[3]]
            numbers[s[1]] = self.kept(self.call(s[2], [self.kept(n) for n in given]))
        elif not self.truth(s[1], numbers, arrays):
            raise End("fault", "check") if sign == "check" else End("stopped")

    def call(self, name, given):
        function = self.functions[name]
        numbers = dict.fromkeys(variables(function), 0)
        numbers.update(zip(function[1], given))
        arrays = {array: [0] * length for array, length in function[2]}
        self.block(function[3], numbers, arrays)
        return self.value(function[4], numbers, arrays)


def walked(program, numbers, inputs):
    """The end of a run without its points; the run must not be endless."""
    try:
        return ("done", Walker(program, inputs).call(program[0][0], numbers))
    except End as end:
        return end.args
