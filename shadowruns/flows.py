"""The flow graph of one FUNCTION."""

from shadowruns.walks import expressions_of, operands


class Flow:
    """The points, EDGEs and heads of loops of a FUNCTION, laid out in the order that [5] tells.

    Each method that lays out is given the point to begin at and returns where it ends.
    """

    def __init__(self, function):
        self.many = 1
        self.edges = []
        self.heads = []
        self.end = self.guards(self.block(0, function[3]), function[4])

    def fresh(self):
        """A new point."""
        self.many += 1
        return self.many - 1

    def step(self, start, action):
        """A new point behind an EDGE with this ACTION."""
        point = self.fresh()
        self.edges.append((start, action, point))
        return point

    def merged(self, one, other):
        """A new point to which both points skip."""
        point = self.fresh()
        self.edges.append((one, ("skip",), point))
        self.edges.append((other, ("skip",), point))
        return point

    def guards(self, start, expression):
        """The guards of an EXPRESSION."""
        here = start
        for part in operands(expression):
            here = self.guards(here, part)
        if expression[0] == "item":
            return self.step(here, ("within", expression[1], expression[2]))
        if expression[0] in ("div", "mod"):
            return self.step(here, ("nonzero", expression[2]))
        return here

    def branches(self, start, condition):
        """A CONDITION: a pair of the points for true and for false."""
        sign = condition[0]
        if sign == "not":
            true, false = self.branches(start, condition[1])
            return false, true
        if sign == "and":
            first, no = self.branches(start, condition[1])
            true, false = self.branches(first, condition[2])
            return true, self.merged(no, false)
        if sign == "or":
            yes, first = self.branches(start, condition[1])
            true, false = self.branches(first, condition[2])
            return self.merged(yes, true), false
        here = self.guards(self.guards(start, condition[1]), condition[2])
        return self.step(here, ("when", condition)), self.step(here, ("unless", condition))

    def block(self, start, statements):
        """A BLOCK."""
        here = start
        for statement in statements:
            here = self.one_of_block(here, statement)
        return here

    def one_of_block(self, start, statement):
        """A STATEMENT of any kind."""
        sign = statement[0]
        if sign == "if":
            return self.choice(start, statement)
        if sign == "while":
            return self.loop(start, statement)
        if sign == "check":
            return self.demand(start, statement[1], ("fail",))
        if sign == "assume":
            return self.demand(start, statement[1], ("stop",))
        return self.plain(start, statement)

    def choice(self, start, statement):
        """An if."""
        true, false = self.branches(self.step(start, ("skip",)), statement[1])
        one = self.block(true, statement[2])
        other = self.block(false, statement[3])
        return self.merged(one, other)

    def loop(self, start, statement):
        """A while."""
        head = self.step(start, ("skip",))
        self.heads.append(head)
        true, false = self.branches(head, statement[1])
        last = self.block(true, statement[2])
        self.edges.append((last, ("skip",), head))
        return false

    def demand(self, start, condition, action):
        """A check or an assume, with the ACTION for a CONDITION that is false."""
        true, false = self.branches(start, condition)
        self.edges.append((false, action, true))
        return true

    def plain(self, start, statement):
        """A set, put, input or call, which is an ACTION itself."""
        here = start
        for expression in expressions_of(statement):
            here = self.guards(here, expression)
        if statement[0] == "put":
            here = self.step(here, ("within", statement[1], statement[2]))
        return self.step(here, statement)
