"""The TABLE of a PROGRAM, made from that of an earlier one as far as this has the same parts."""

from shadowruns.graph import feeding, flows_of, heads, parts
from shadowruns.kinds import StateKind
from shadowruns.plans import Plan
from shadowruns.rounds import Rounds


class Telling:
    """What analyse returns for a PROGRAM, and for each part the POINTs that feed it.

    work has the POINTs of the parts that were computed.
    """

    def __init__(self, program, begin, settings):
        graph = feeding(program, flows_of(program))
        sources = {point: [] for point in graph}
        for point in graph:
            for after in graph[point]:
                sources[after].append(point)
        self.feeders = {}
        for part in parts(program):
            self.feeders[part] = sorted(set([source for point in part for source in sources[point]]))
        self.rounds = Rounds(Plan(program, StateKind(settings.gaps)), begin, settings, heads(program))
        self.work = []

    def tell(self, before, g):
        """Makes the TABLE: what the edit of the FUNCTION g, or of none, cannot change is that before it."""
        for part in self.feeders:
            if before is None or self.is_touched(part, before, g):
                self.rounds.tell([part])
                self.work.extend(part)
            else:
                for f, k in part:
                    self.rounds.rows[f][k] = before.rounds.rows[f][k]
        self.work = sorted(self.work)

    def is_touched(self, part, before, g):
        """Whether the edit can change the STATEs of a part; those of the parts that feed it are made."""
        if g in [f for f, _ in part] or before.feeders.get(part) != self.feeders[part]:
            return True
        for f, k in self.feeders[part]:
            if (f, k) not in part and (f == g or self.rounds.rows[f][k] != before.rounds.rows[f][k]):
                return True
        return (0, 0) in part and self.rounds.first != before.rounds.first
