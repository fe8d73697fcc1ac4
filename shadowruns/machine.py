"""Runs of a PROGRAM, step by step."""

from shadowruns.graph import flows_of
from shadowruns.limits import GREATEST
from shadowruns.scopes import Scope, replaced


class Machine:
    """What runs need of a PROGRAM, worked out once."""

    def __init__(self, program):
        self.scopes = [Scope(function) for function in program]
        self.ways = [ways_out_of(flow) for flow in flows_of(program)]
        self.places = {function[0]: f for f, function in enumerate(program)}


class Run:
    """A run: the call that goes on, those that wait for it, and the trace; end is None until it ends."""

    def __init__(self, machine, inputs, steps):
        self.machine = machine
        self.inputs = inputs
        self.inputs_used = 0
        self.steps = steps
        self.waiting = []
        self.trace = []
        self.end = None
        self.point = None
        self.frame = None

    def go(self, numbers):
        """Runs the main function to the end."""
        self.begin_call(0, numbers)
        while self.end is None:
            self.move()

    def scope(self):
        """The Scope of the FUNCTION that goes on."""
        return self.machine.scopes[self.point[0]]

    def number(self, expression):
        """The value of an EXPRESSION now."""
        return number_of(self.scope(), self.frame, expression)

    def begin_call(self, f, arguments):
        """Goes on at the entry of a FUNCTION, with variables and arrays of its own."""
        scope = self.machine.scopes[f]
        others = (0,) * (scope.wide - len(arguments))
        self.visit((f, 0), (tuple(arguments) + others, tuple([(0,) * many for many in scope.lengths])))

    def visit(self, point, frame):
        """Goes on at a POINT with a FRAME, unless the trace has all its steps already."""
        if len(self.trace) >= self.steps:
            self.end = ("open", self.point)
            return
        self.point = point
        self.frame = frame
        self.trace.append((point, frame))

    def move(self):
        """Goes along an EDGE from the present POINT, or ends, or leaves a call."""
        f, k = self.point
        ways = self.machine.ways[f][k]
        if len(ways) == 0:
            self.end_call()
        elif len(ways) == 2:
            # the EDGE for true was created first
            way = ways[0] if self.holds(ways[0][0][1]) else ways[1]
            self.visit((f, way[1]), self.frame)
        else:
            action, stop = ways[0]
            self.act(action, (f, stop))

    def holds(self, atom):
        """Whether an ATOM is true now."""
        one, other = self.number(atom[1]), self.number(atom[2])
        if atom[0] == "less":
            return one < other
        return one == other

    def act(self, action, stop):
        """Carries out an ACTION that leads to the POINT stop."""
        sign = action[0]
        if sign == "set":
            self.give(action[1], self.number(action[2]), stop)
        elif sign == "put":
            self.put(action, stop)
        elif sign == "input":
            self.take(action, stop)
        elif sign == "call":
            self.call(action, stop)
        elif sign == "stop":
            self.end = ("stopped", self.point)
        else:
            self.guard(action, stop)

    def guard(self, action, stop):
        """Goes on if there is no fault."""
        kind = self.fault(action)
        if kind is None:
            self.visit(stop, self.frame)
        else:
            self.end = ("fault", kind, self.point)

    def fault(self, action):
        """The kind of the fault at an ACTION, None if there is none."""
        sign = action[0]
        if sign == "fail":
            return "check"
        if sign == "nonzero" and self.number(action[1]) == 0:
            return "division"
        if sign == "within":
            index = self.number(action[2])
            if index < 0 or index >= self.scope().length(action[1]):
                return "index"
        return None

    def give(self, name, n, stop):
        """A variable becomes n."""
        if is_great(n):
            self.end = ("great", self.point)
            return
        numbers, rows = self.frame
        self.visit(stop, (replaced(numbers, self.scope().place[name], n), rows))

    def put(self, action, stop):
        """An item of an array becomes a number."""
        n = self.number(action[3])
        if is_great(n):
            self.end = ("great", self.point)
            return
        numbers, rows = self.frame
        at = self.scope().row[action[1]]
        row = replaced(rows[at], self.number(action[2]), n)
        self.visit(stop, (numbers, replaced(rows, at, row)))

    def take(self, action, stop):
        """A variable becomes the next input."""
        low, high = action[2], action[3]
        if self.inputs_used == len(self.inputs):
            self.end = ("inputs", self.point)
            return
        n = self.inputs[self.inputs_used]
        if (low is not None and n < low) or (high is not None and n > high):
            self.end = ("inputs", self.point)
            return
        self.inputs_used += 1
        self.give(action[1], n, stop)

    def call(self, action, stop):
        """Another call begins, and this one waits."""
        arguments = [self.number(expression) for expression in action[3]]
        if any([is_great(n) for n in arguments]):
            self.end = ("great", self.point)
            return
        self.waiting.append((self.point, self.frame, action[1], stop))
        self.begin_call(self.machine.places[action[2]], arguments)

    def end_call(self):
        """This call ends; the last one that waits goes on with its result."""
        n = self.number(self.scope().result)
        if len(self.waiting) == 0:
            self.end = ("done", n)
            return
        begin, frame, name, stop = self.waiting.pop()
        if is_great(n):
            self.end = ("great", begin)
            return
        numbers, rows = frame
        place = self.machine.scopes[begin[0]].place[name]
        self.visit(stop, (replaced(numbers, place, n), rows))


def ways_out_of(flow):
    """For each point of a Flow the list of the pairs (ACTION, point) of its EDGEs."""
    found = [[] for _ in range(flow.many)]
    for start, action, stop in flow.edges:
        found[start].append((action, stop))
    return found


def is_great(n):
    """Whether n is too great for a variable, an item or a parameter, or too far below 0."""
    return n < -GREATEST or n > GREATEST


def number_of(scope, frame, expression):
    """The value of an EXPRESSION in a FRAME; its guards have been passed."""
    sign = expression[0]
    if sign == "num":
        return expression[1]
    if sign == "var":
        return frame[0][scope.place[expression[1]]]
    if sign == "item":
        return frame[1][scope.row[expression[1]]][number_of(scope, frame, expression[2])]
    one = number_of(scope, frame, expression[1])
    other = number_of(scope, frame, expression[2])
    return operated(sign, one, other)


def operated(sign, one, other):
    """The result of an operation."""
    if sign == "add":
        return one + other
    if sign == "sub":
        return one - other
    if sign == "mul":
        return one * other
    if sign == "div":
        return one // other
    return one % other
