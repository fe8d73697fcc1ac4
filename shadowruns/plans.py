"""What reaches the POINTs of a PROGRAM."""

from shadowruns.acting import given_values, state_behind_call, transfer
from shadowruns.graph import flows_of
from shadowruns.mixing import begin_state, join_states
from shadowruns.reading import not_great
from shadowruns.scopes import Scope


class Plan:
    """What an analysis needs of a PROGRAM, worked out once.

    into has for each point of each FUNCTION the pairs (point, ACTION) of the EDGEs to it; callers
    has for each FUNCTION the triples (index of a FUNCTION, point, ACTION) of the calls of it.
    """

    def __init__(self, program):
        flows = flows_of(program)
        self.scopes = [Scope(function) for function in program]
        self.sizes = [flow.many for flow in flows]
        self.exits = [flow.end for flow in flows]
        self.places = {function[0]: f for f, function in enumerate(program)}
        self.into = [[[] for _ in range(many)] for many in self.sizes]
        self.callers = [[] for _ in program]
        for f, flow in enumerate(flows):
            for start, action, stop in flow.edges:
                self.into[f][stop].append((start, action))
                if action[0] == "call":
                    self.callers[self.places[action[2]]].append((f, start, action))

    def along(self, table, f, start, action):
        """The STATE that comes along an EDGE of the FUNCTION f, that of a call included."""
        scope, state = self.scopes[f], table[f][start]
        if action[0] != "call":
            return transfer(scope, state, action)
        g = self.places[action[2]]
        return state_behind_call(scope, state, action, self.scopes[g], table[g][self.exits[g]])

    def entering(self, begin, table, f, has_gaps):
        """The STATE that comes to the entry of the FUNCTION f."""
        found = None
        for g, start, action in self.callers[f]:
            given = given_values(self.scopes[g], table[g][start], action)
            found = join_states(found, begin_state(self.scopes[f], given, has_gaps))
        if f == 0:
            found = join_states(found, begin_state(self.scopes[0], first_arguments(begin), has_gaps))
        return found

    def reaching(self, begin, table, point, has_gaps):
        """The join of all STATEs that come to a POINT."""
        f, k = point
        found = None
        if k == 0:
            found = self.entering(begin, table, f, has_gaps)
        for start, action in self.into[f][k]:
            found = join_states(found, self.along(table, f, start, action))
        return found


def first_arguments(begin):
    """The VALUEs of begin as far as parameters can have them; None if one has no integers left."""
    found = [not_great(value) for value in begin]
    if any([value is None for value in found]):
        return None
    return found
