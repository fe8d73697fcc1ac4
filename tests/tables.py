"""Programs, settings, begins and runs for the tests of tables."""

import random

from shadowruns.engine import Settings
from shadowruns.graph import points_many
from shadowruns.limits import GREATEST
from shadowruns.running import run
from shadowruns.values import EVERY, contains, single
from tests.samples import LOOP, MORE, ONE, TINY, TWO, X, Y, ZERO, body, likely, made, program

ALL = (-GREATEST, GREATEST, 1, 0)
BEGINS = [EVERY, (0, 10, 1, 0), (-3, None, 1, 0), single(2), (1, None, 2, 1), (None, 5, 1, 0), (-6, 6, 3, 0)]
N0 = single(0)


def num(n):
    return ("num", n)


def only(*values):
    """A state without gaps and arrays."""
    return (values, None, ())


def turn(name, other):
    """A function that calls another one with one less, until that is 0."""
    call = ("call", "y", other, (("sub", X, ONE),))
    return body(("if", ("less", ZERO, X), (call, ("set", "y", ("add", Y, ONE))), ()), name=name, parameters=("x",), result=Y)


def loop_to(name, bound, *statements):
    """A loop that counts a variable up."""
    step = ("set", name, ("add", ("var", name), ONE))
    return ("while", ("less", ("var", name), bound), statements + (step,))


NESTED = program(
    loop_to("x", num(4), ("set", "y", ZERO), loop_to("y", X, loop_to("z", Y), ("put", "a", Y, ("sub", X, Y)))),
    arrays=(("a", 3),), result=("item", "a", ("sub", X, num(2))),
)
SPECIAL = [
    TINY, LOOP, TWO, NESTED,
    (turn("main", "main"),),
    program(("call", "z", "f", (("var", "n"),)), parameters=("n",), result=("var", "z"), others=(turn("f", "f"),)),
    program(("call", "z", "f", (X,)), ("call", "x", "g", (("var", "z"),)), parameters=("x",), result=X,
            others=(turn("f", "g"), turn("g", "f"))),
    (turn("main", "f"), turn("f", "main"), turn("g", "g")),
    (body(("call", "x", "main", ())), MORE),
    (body(loop_to("x", num(3), ("call", "y", "f", (X,))), result=Y), MORE, body(loop_to("x", num(9)), name="h")),
]


def all_points(thing):
    return [(f, k) for f, function in enumerate(thing) for k in range(points_many(function))]


def drawn_settings(chance, thing):
    points = all_points(thing) + [(9, 0), (0, 999), (-1, 0)]
    return Settings(
        gaps=chance.random() < 0.6, delay=chance.choice([0, 0, 1, 2, 3, 10, 40]), narrow=chance.choice([0, 1, 2, 3, 6]),
        marks=tuple(sorted(set(chance.randint(-20, 20) for _ in range(chance.randint(0, 6))))),
        order=chance.sample(points, min(len(points), chance.randint(0, 8))),
    )


def drawn_number(chance, value):
    while True:
        n = chance.choice([chance.randint(-12, 12), chance.randint(-10 ** 6, 10 ** 6), GREATEST, -GREATEST])
        if contains(value, n):
            return n


def drawn_runs(chance, begin, many):
    """So many pairs of numbers within begin and inputs."""
    return [
        ([drawn_number(chance, value) for value in begin], [chance.randint(-4, 7) for _ in range(20)])
        for _ in range(many)
    ]


def runs_of(chance, thing, begin, many):
    """The ends and traces of so many runs with numbers within begin."""
    return [run(thing, numbers, inputs, 300) for numbers, inputs in drawn_runs(chance, begin, many)]


def draws(seed, many):
    """Quadruples of a chance, a program, values for its parameters, and settings."""
    chance = random.Random(seed)
    for thing in SPECIAL * 3 + likely(many, seed * 1000) + made(many // 4):
        begin = tuple(chance.choice(BEGINS) for _ in thing[0][1])
        yield chance, thing, begin, drawn_settings(chance, thing)
