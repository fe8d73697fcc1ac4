"""What reaches the POINTs of a PROGRAM."""

from shadowruns.graph import flows_of
from shadowruns.scopes import Scope


class Plan:
    """What an analysis needs of a PROGRAM, worked out once, and the kind of its descriptions.

    into has for each point of each FUNCTION the pairs (point, ACTION) of the EDGEs to it; callers
    has for each FUNCTION the triples (index of a FUNCTION, point, ACTION) of the calls of it.
    """

    def __init__(self, program, kind):
        flows = flows_of(program)
        self.kind = kind
        self.scopes = [Scope(function) for function in program]
        self.sizes = [flow.many for flow in flows]
        self.exits = [flow.end for flow in flows]
        self.places = {function[0]: f for f, function in enumerate(program)}
        self.into = [[[] for _ in range(many)] for many in self.sizes]
        self.callers = [[] for _ in program]
        for f, flow in enumerate(flows):
            for start, action, stop in flow.edges:
                self.into[f][stop].append((start, action))
                if action[0] == "call":
                    self.callers[self.places[action[2]]].append((f, start, action))

    def along(self, table, f, start, action):
        """What comes along an EDGE of the FUNCTION f, that of a call included."""
        scope, state = self.scopes[f], table[f][start]
        if action[0] != "call":
            return self.kind.after(scope, state, action)
        g = self.places[action[2]]
        return self.kind.behind(scope, state, action, self.scopes[g], table[g][self.exits[g]])

    def entering(self, begin, table, f):
        """What comes to the entry of the FUNCTION f."""
        found = None
        for g, start, action in self.callers[f]:
            given = self.kind.given(self.scopes[g], table[g][start], action)
            found = self.kind.both(found, self.kind.begun(self.scopes[f], given))
        if f == 0:
            first = self.kind.begun(self.scopes[0], self.kind.first_arguments(begin))
            found = self.kind.both(found, first)
        return found

    def reaching(self, begin, table, point):
        """The join of all that comes to a POINT."""
        f, k = point
        found = None
        if k == 0:
            found = self.entering(begin, table, f)
        for start, action in self.into[f][k]:
            found = self.kind.both(found, self.along(table, f, start, action))
        return found

    def first_break(self, begin, table):
        """The least POINT that is reached by what its description does not hold; None without one."""
        for f, many in enumerate(self.sizes):
            for k in range(many):
                if not self.kind.inside(self.reaching(begin, table, (f, k)), table[f][k]):
                    return (f, k)
        return None
