"""Namings by chance, and [20] by its words over the public functions of classes and graph."""

import functools

from shadowruns.classes import class_of, classes, classes_meeting, sort_apply
from shadowruns.graph import edges, exit_of, parts, points_many
from shadowruns.programs import variables
from shadowruns.values import value_of

SIGNS = ((0, 1), 1, (("neg",), ("zero",), ("pos",)))
PARITY = ((), 2, (("even", "odd"),))
ONE_CLASS = ((), 1, (("all",),))
# 0 and 5 alone, the same class in several places, stretches that are too short for some remainders
MIXED = ((-3, 0, 1, 5, 6, 20), 3, (
    ("low", "low", "far"), ("a", "b", "a"), ("zero", None, None), ("b", "a", "small"), (None, None, "five"),
    ("a", "b", "c"), ("high", "high", "far")))
TENS = ((-10, 10), 5, (("n0", "n1", "n2", "n3", "n4"), ("m0", "m1", "m2", "m3", "m4"), ("p", "p", "p", "p", "q")))
NAMINGS = [SIGNS, PARITY, ONE_CLASS, MIXED, TENS]
# all cuts are within, and all classes and pairs of remainders show up on both sides
WINDOW = range(-36, 37)
KNOWN = {}
APPLIED = functools.cache(sort_apply)
EDGES = functools.cache(edges)


def drawn_naming(chance):
    """A naming with cuts from -8 to 8, a modulus of at most 4, and few names."""
    cuts = tuple(sorted(set(chance.randint(-8, 8) for _ in range(chance.randint(0, 4)))))
    m = chance.randint(1, 4)
    names = []
    for low, high in zip((None,) + cuts, cuts + (None,)):
        row = []
        for r in range(m):
            there = low is None or high is None or any(n % m == r for n in range(low, high))
            row.append(chance.choice("abcdefgh"[:chance.randint(1, 8)]) if there else None)
        names.append(tuple(row))
    return (cuts, m, tuple(names))


def members(naming, sort):
    """The integers of a sort in the window."""
    if naming not in KNOWN:
        KNOWN[naming] = [(n, class_of(naming, n)) for n in WINDOW]
    return [n for n, name in KNOWN[naming] if name in sort]


def drawn_sort(chance, naming):
    """A sort that is not empty."""
    names = classes(naming)
    return tuple(sorted(chance.sample(names, chance.randint(1, len(names)))))


class Nothing(Exception):
    """There is no sort state."""


def some(sort):
    if sort == ():
        raise Nothing
    return sort


@functools.cache
def staying(naming, sign, truth, one, other):
    """The classes of one and those of other with an integer for which an atom is true (false) with one of the other."""
    pairs = [(a, b) for a in members(naming, one) for b in members(naming, other)
             if ((a < b) if sign == "less" else (a == b)) == truth]
    lefts = {class_of(naming, n) for n in {a for a, _ in pairs}}
    rights = {class_of(naming, n) for n in {b for _, b in pairs}}
    return tuple(c for c in one if c in lefts), tuple(c for c in other if c in rights)


class SortWords:
    """A sort state of a function that is changed."""

    def __init__(self, naming, function, state):
        if state is None:
            raise Nothing
        self.naming = naming
        self.names = variables(function)
        self.arrays = [name for name, _ in function[2]]
        self.sorts = dict(zip(self.names, state[0]))
        self.items = dict(zip(self.arrays, state[1]))

    def state(self):
        return (tuple(self.sorts[name] for name in self.names), tuple(self.items[name] for name in self.arrays))

    def sort(self, e):
        if e[0] == "num":
            return (class_of(self.naming, e[1]),)
        if e[0] == "var":
            return self.sorts[e[1]]
        if e[0] == "item":
            return self.items[e[1]]
        return APPLIED(self.naming, e[0], self.sort(e[1]), self.sort(e[2]))

    def atom(self, sign, e, f, truth):
        one, other = some(self.sort(e)), some(self.sort(f))
        left, right = map(some, staying(self.naming, sign, truth, one, other))
        if e[0] == "var" and e == f:
            self.sorts[e[1]] = some(tuple(c for c in left if c in right))
            return
        if e[0] == "var":
            self.sorts[e[1]] = left
        if f[0] == "var":
            self.sorts[f[1]] = right

    def act(self, action):
        sign = action[0]
        if sign in ("fail", "stop"):
            raise Nothing
        if sign == "nonzero":
            left = some(tuple(c for c in some(self.sort(action[1])) if members(self.naming, (c,)) != [0]))
            if action[1][0] == "var":
                self.sorts[action[1][1]] = left
        elif sign == "set":
            self.sorts[action[1]] = some(self.sort(action[2]))
        elif sign == "put":
            self.items[action[1]] = tuple(sorted(set(self.items[action[1]]) | set(some(self.sort(action[3])))))
        elif sign == "input":
            self.sorts[action[1]] = classes_meeting(self.naming, value_of(action[2], action[3], 1, 0))
        elif sign in ("when", "unless"):
            self.atom(*action[1], sign == "when")


def union(one, other):
    if one is None or other is None:
        return other if one is None else one
    return tuple(tuple(tuple(sorted(set(a) | set(b))) for a, b in zip(*rows)) for rows in zip(one, other))


def is_within(one, other):
    if one is None or other is None:
        return one is None
    return all(set(a) <= set(b) for rows in zip(one, other) for a, b in zip(*rows))


def begun(naming, function, sorts):
    zero = (class_of(naming, 0),)
    others = (zero,) * (len(variables(function)) - len(sorts))
    return (tuple(sorts) + others, (zero,) * len(function[2]))


def incoming_sorts(thing, begin, naming, table, point):
    """The union of what reaches a point."""
    f, k = point
    names = [function[0] for function in thing]
    found = begun(naming, thing[0], begin) if point == (0, 0) else None
    for g, function in enumerate(thing):
        for start, action, stop in EDGES(function):
            if (g, stop) != point and (action[0] != "call" or k > 0):
                continue
            try:
                here = SortWords(naming, function, table[g][start])
                if action[0] != "call":
                    here.act(action)
                    found = union(found, here.state())
                    continue
                callee = names.index(action[2])
                if (callee, 0) == point:
                    given = [some(here.sort(e)) for e in action[3]]
                    found = union(found, begun(naming, thing[callee], given))
                if (g, stop) == point:
                    there = SortWords(naming, thing[callee], table[callee][exit_of(thing[callee])])
                    here.sorts[action[1]] = some(there.sort(thing[callee][4]))
                    found = union(found, here.state())
            except Nothing:
                pass
    return found


def told_by_the_words(thing, begin, naming):
    table = [[None] * points_many(function) for function in thing]
    for part in parts(thing):
        changed = True
        while changed:
            changed = False
            for f, k in part:
                new = incoming_sorts(thing, begin, naming, table, (f, k))
                if not is_within(new, table[f][k]):
                    table[f][k] = union(table[f][k], new)
                    changed = True
    return table
