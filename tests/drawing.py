"""States, expressions and actions by chance, with huge bounds, remainders and everything that is simple."""

from shadowruns.limits import GREATEST
from shadowruns.programs import variables
from shadowruns.values import EVERY, single, value_of
from tests.samples import body

CALLER = body(parameters=("x", "y", "z"), arrays=(("a", 4), ("b", 1)))
CALLEE = body(("set", "x", ("var", "z")), name="g", parameters=("p", "q"), arrays=(("a", 4), ("b", 1)),
              result=("item", "a", ("var", "p")))
NAMES = ["x", "y", "z"]


class Drawing:
    """Things for CALLER and CALLEE, the same ones for the same chance."""

    def __init__(self, chance):
        self.chance = chance

    def value(self):
        kind = self.chance.random()
        if kind < 0.1:
            return EVERY
        if kind < 0.2:
            return single(self.chance.randint(-4, 6))
        while True:
            m = self.chance.choice([1, 1, 1, 2, 3, 6])
            low, high = sorted([self.chance.randint(-9, 9), self.chance.randint(-9, 9)])
            if self.chance.random() < 0.2:
                low = self.chance.choice([-GREATEST, -GREATEST + 3, None, None])
            if self.chance.random() < 0.2:
                high = self.chance.choice([GREATEST, GREATEST - 5, None, None])
            value = value_of(low, high, m, self.chance.randrange(m))
            if value is not None:
                return value

    def gaps(self, k):
        bounds = [None, None, None, -6, -2, -1, 0, 1, 2, 3, 7, 12]
        return tuple(tuple(0 if i == j else self.chance.choice(bounds) for j in range(k)) for i in range(k))

    def pieces(self, n):
        values = [self.value()]
        while len(values) < n:
            values.append(self.value() if self.chance.random() < 0.4 else values[-1])
        return tuple((k + 1, values[k]) for k in range(n) if k + 1 == n or values[k] != values[k + 1])

    def state(self, function, has_gaps):
        many = len(variables(function))
        return (
            tuple(self.value() for _ in range(many)), self.gaps(many) if has_gaps else None,
            tuple(self.pieces(length) for _, length in function[2]),
        )

    def simple(self):
        name = ("var", self.chance.choice(NAMES))
        n = self.chance.choice([GREATEST, -GREATEST]) if self.chance.random() < 0.03 else self.chance.randint(-5, 5)
        return self.chance.choice([name, name, ("add", name, ("num", n)), ("sub", name, ("num", n))])

    def expression(self, depth):
        kind = self.chance.random()
        if depth == 0 or kind < 0.5:
            return self.simple() if self.chance.random() < 0.8 else ("num", self.chance.randint(-6, 9))
        if kind < 0.6:
            return ("item", self.chance.choice("aab"), self.expression(depth - 1))
        sign = self.chance.choice(["add", "sub", "sub", "mul", "div", "mod"])
        return (sign, self.expression(depth - 1), self.expression(depth - 1))

    def action(self):
        sign = self.chance.choice([
            "skip", "nonzero", "within", "set", "set", "input", "put", "when", "when", "when", "unless", "unless",
            "unless",
        ])
        if sign == "skip":
            return (sign,)
        if sign == "nonzero":
            return (sign, self.expression(1))
        if sign == "within":
            return (sign, self.chance.choice("aab"), self.expression(1))
        if sign == "set":
            return (sign, self.chance.choice(NAMES), self.expression(2))
        if sign == "input":
            low = self.chance.choice([None, -5, 0, 2, GREATEST, GREATEST + 1, -2 * GREATEST])
            high = self.chance.choice([None, 2, 7, GREATEST + 9, -GREATEST - 1])
            return (sign, self.chance.choice(NAMES), low, None if None not in (low, high) and low > high else high)
        if sign == "put":
            return (sign, self.chance.choice("aab"), self.expression(1), self.expression(1))
        return (sign, (self.chance.choice(["less", "equal"]), self.expression(1), self.expression(1)))

    def call(self):
        return ("call", self.chance.choice(NAMES), "g", (self.expression(1), self.expression(2)))
