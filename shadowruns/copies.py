"""Copies of STATEMENTs in a changed FUNCTION, and the points that theirs stand for.

Points are counted as Flow creates them: those of a CONDITION, a STATEMENT or a BLOCK follow each
other without a gap. So the points of a copy can be told from where those of the original begin.
"""

from shadowruns.flows import Flow

NOTHING = ("", (), (), (), ("num", 0))


def condition_layout(condition):
    """How many points a CONDITION makes, and which of them, from 1 on, are for true and for false."""
    flow = Flow(NOTHING)
    true, false = flow.branches(0, condition)
    return (flow.many - 1, true, false)


def block_layout(block):
    """How many points a BLOCK makes, and at which of them, from 1 on, it ends; 0 if it is empty."""
    flow = Flow(NOTHING)
    end = flow.block(0, block)
    return (flow.many - 1, end)


class Unrolling:
    """The loops of one FUNCTION unrolled so many times.

    Each method is given the old point that its part begins with, and returns the new part, the
    list of the old points, or None, for the points of the new one, and the old point behind.
    """

    def __init__(self, times):
        self.times = times

    def block(self, statements, start):
        """A BLOCK."""
        made = []
        points = []
        here = start
        for statement in statements:
            new, more, here = self.statement(statement, here)
            made.append(new)
            points.extend(more)
        return (tuple(made), points, here)

    def statement(self, statement, start):
        """A STATEMENT of any kind."""
        if statement[0] == "if":
            return self.choice(statement, start)
        if statement[0] == "while":
            return self.loop(statement, start)
        many, _ = block_layout((statement,))
        return (statement, list(range(start, start + many)), start + many)

    def choice(self, statement, start):
        """An if."""
        behind = start + 1 + condition_layout(statement[1])[0]
        points = list(range(start, behind))
        one, more, behind = self.block(statement[2], behind)
        other, most, behind = self.block(statement[3], behind)
        return (("if", statement[1], one, other), points + more + most + [behind], behind + 1)

    def loop(self, statement, start):
        """A while; start is its head."""
        condition = statement[1]
        many, _, false = condition_layout(condition)
        inner, more, behind = self.block(statement[2], start + 1 + many)
        points = list(range(start, start + 1 + many))
        if self.times > 0:
            points[false] = None
        made = ("while", condition, inner)
        found = points + more
        for _ in range(self.times):
            made = ("if", condition, inner + (made,), ())
            found = points + more + found + [None]
        if self.times > 0:
            found[-1] = start + false
        return (made, found, behind)


class Renaming:
    """Calls of a FUNCTION that get other names, as long as there are any, in the order of the calls."""

    def __init__(self, name, names):
        self.name = name
        self.left = list(names)

    def block(self, statements):
        """A BLOCK with the other names."""
        return tuple([self.statement(statement) for statement in statements])

    def statement(self, statement):
        """A STATEMENT with the other names."""
        sign = statement[0]
        if sign == "if":
            return (sign, statement[1], self.block(statement[2]), self.block(statement[3]))
        if sign == "while":
            return (sign, statement[1], self.block(statement[2]))
        if sign == "call" and statement[2] == self.name and len(self.left) > 0:
            return (sign, statement[1], self.left.pop(0), statement[3])
        return statement
