"""Programs and helpers that several tests use."""

import random

TINY = (("main", ("n",), (), (("set", "x", ("div", ("num", 8), ("var", "n"))),), ("var", "x")),)
LOOP = (("main", (), (), (
    ("while", ("less", ("var", "x"), ("num", 10)), (("set", "x", ("add", ("var", "x"), ("num", 2))),)),
), ("var", "x")),)
MORE = ("f", ("n",), (), (), ("add", ("var", "n"), ("num", 1)))
TWO = (("main", (), (), (
    ("call", "x", "f", (("var", "x"),)),
    ("call", "x", "f", (("var", "x"),)),
), ("var", "x")), MORE)

ZERO = ("num", 0)
ONE = ("num", 1)
X = ("var", "x")
Y = ("var", "y")
ATOM = ("less", X, Y)
SKIP = ("skip",)


def body(*statements, result=ZERO, arrays=(), parameters=(), name="main"):
    """A function with these statements."""
    return (name, parameters, arrays, statements, result)


def program(*statements, result=ZERO, arrays=(), parameters=(), others=()):
    """A program whose main function has these statements."""
    return (body(*statements, result=result, arrays=arrays, parameters=parameters),) + others


def as_lists(thing):
    """The same thing with a list for each tuple."""
    if isinstance(thing, (list, tuple)):
        return [as_lists(part) for part in thing]
    return thing


def has_list(thing):
    """Whether thing is a list or contains one."""
    if isinstance(thing, tuple):
        return any(has_list(part) for part in thing)
    return isinstance(thing, list)


def levels(thing):
    """How deep a thing is nested."""
    if isinstance(thing, (list, tuple)):
        return 1 + max([levels(part) for part in thing], default=0)
    return 0


class Maker:
    """Programs by chance, the same ones for the same seed."""

    def __init__(self, seed):
        self.chance = random.Random(seed)

    def expression(self, depth):
        sign = self.chance.choice(["num", "var", "item", "add", "sub", "mul", "div", "mod"])
        if depth == 0 or sign in ("num", "var"):
            if sign == "num":
                return ("num", self.chance.randint(-3, 3))
            return ("var", self.chance.choice(["p", "x", "y", "f"]))
        if sign == "item":
            return ("item", "a", self.expression(depth - 1))
        return (sign, self.expression(depth - 1), self.expression(depth - 1))

    def condition(self, depth):
        sign = self.chance.choice(["less", "equal", "not", "and", "or"])
        if depth == 0 or sign in ("less", "equal"):
            atom = "less" if sign == "less" else "equal"
            return (atom, self.expression(1), self.expression(1))
        if sign == "not":
            return ("not", self.condition(depth - 1))
        return (sign, self.condition(depth - 1), self.condition(depth - 1))

    def statement(self, depth, needed):
        signs = ["set", "put", "input", "call", "check", "assume"]
        sign = self.chance.choice(signs + (["if", "while"] * 2 if depth else []))
        name = self.chance.choice(["x", "y", "z"])
        if sign == "set":
            return ("set", name, self.expression(2))
        if sign == "put":
            return ("put", "a", self.expression(1), self.expression(1))
        if sign == "input":
            return ("input", name, self.chance.choice([None, -1]), self.chance.choice([None, 4]))
        if sign == "call":
            other = self.chance.choice(sorted(needed))
            return ("call", name, other, tuple(self.expression(1) for _ in range(needed[other])))
        if sign in ("check", "assume"):
            return (sign, self.condition(2))
        if sign == "while":
            return ("while", self.condition(1), self.block(depth - 1, needed))
        return ("if", self.condition(1), self.block(depth - 1, needed), self.block(depth - 1, needed))

    def block(self, depth, needed):
        return tuple(self.statement(depth, needed) for _ in range(self.chance.randint(0, 2)))

    def program(self):
        needed = {"main": 0, "f": 1, "g": 2}
        names = ["main", "f", "g"][:self.chance.randint(1, 3)]
        needed = {name: needed[name] for name in names}
        return tuple(
            (name, ("p", "q")[:needed[name]], (("a", 3),), self.block(2, needed), self.expression(2))
            for name in names
        )


def made(many):
    """So many programs made by chance."""
    return [Maker(seed).program() for seed in range(many)]


class LikelyMaker(Maker):
    """Programs by chance that often get far: few faults, counted loops, main with parameters."""

    NAMES = ["p", "q", "x", "y", "z"]

    def simple(self):
        name = ("var", self.chance.choice(self.NAMES))
        return self.chance.choice([
            name, name, ("add", name, ("num", self.chance.randint(-4, 6))),
            ("sub", name, ("num", self.chance.randint(-4, 6))),
        ])

    def index(self):
        if self.chance.random() < 0.1:
            return self.simple()
        return self.chance.choice([("num", self.chance.randint(0, 2)), ("mod", self.simple(), ("num", 3))])

    def expression(self, depth):
        kind = self.chance.random()
        if depth == 0 or kind < 0.45:
            return self.simple() if kind < 0.35 else ("num", self.chance.randint(-5, 9))
        if kind < 0.55:
            return ("item", "a", self.index())
        sign = self.chance.choice(["add", "sub", "sub", "mul", "div", "mod"])
        if sign in ("div", "mod") and self.chance.random() < 0.8:
            return (sign, self.expression(depth - 1), ("num", self.chance.choice([-3, 2, 3, 4])))
        return (sign, self.expression(depth - 1), self.expression(depth - 1))

    def condition(self, depth):
        if depth and self.chance.random() < 0.3:
            return Maker.condition(self, depth)
        sign = self.chance.choice(["less", "less", "equal"])
        return (sign, self.expression(1), self.expression(1))

    def loop(self, depth, needed):
        name = self.chance.choice(self.NAMES)
        step = ("set", name, ("add", ("var", name), ("num", self.chance.randint(1, 3))))
        bound = self.chance.choice([("num", self.chance.randint(2, 12)), ("var", self.chance.choice(self.NAMES))])
        return ("while", ("less", ("var", name), bound), self.block(depth - 1, needed) + (step,))

    def statement(self, depth, needed):
        kind = self.chance.random()
        name = self.chance.choice(self.NAMES)
        if depth and kind < 0.35:
            if kind < 0.15:
                return self.loop(depth, needed)
            return ("if", self.condition(1), self.block(depth - 1, needed), self.block(depth - 1, needed))
        if kind < 0.65:
            return ("set", name, self.expression(2))
        if kind < 0.75:
            return ("put", "a", self.index(), self.expression(1))
        if kind < 0.85:
            return ("input", name, self.chance.choice([None, -3, 0]), self.chance.choice([None, 5, 9]))
        if kind < 0.95:
            return self.guarded_call(name, needed)
        return Maker.statement(self, depth, needed)

    def guarded_call(self, name, needed):
        """A call that is no longer made when the first parameter has grown."""
        other = self.chance.choice(sorted(needed))
        more = tuple(self.expression(1) for _ in range(needed[other] - 1))
        call = ("call", name, other, (("add", ("var", "p"), ONE),) + more)
        return ("if", ("less", ("var", "p"), ("num", self.chance.randint(0, 5))), (call,), ())

    def block(self, depth, needed):
        return tuple(self.statement(depth, needed) for _ in range(self.chance.randint(1, 3)))

    def program(self):
        needed = {"main": 2, "f": 1, "g": 2}
        names = ["main", "f", "g"][:self.chance.choice([1, 2, 2, 3])]
        needed = {name: needed[name] for name in names}
        calls = tuple(("call", "z", name, tuple(self.simple() for _ in range(needed[name]))) for name in names[1:])
        return tuple(
            (name, ("p", "q")[:needed[name]], (("a", 3),), (calls if name == "main" else ()) + self.block(2, needed),
             self.expression(1)) for name in names
        )


def likely(many, first=0):
    """So many programs that often get far."""
    return [LikelyMaker(seed).program() for seed in range(first, first + many)]
