"""Rounds of visits to the POINTs of a PROGRAM that make a TABLE."""

from shadowruns.mixing import join_states, meet_states, widen_states, within_state


class Rounds:
    """A TABLE that is being made, and what its STATEs come from."""

    def __init__(self, plan, begin, settings, heads):
        self.plan = plan
        self.begin = begin
        self.settings = settings
        self.heads = {point: True for point in heads}
        self.table = [[None] * many for many in plan.sizes]

    def in_order(self, points):
        """The POINTs in the order in which they are visited."""
        first = [point for point in self.settings.order if point in points]
        return first + [point for point in points if point not in first]

    def new(self, point):
        """What reaches a POINT at this time."""
        return self.plan.reaching(self.begin, self.table, point, self.settings.gaps)

    def ascend(self, points):
        """Rounds until one changes nothing."""
        changes = {point: 0 for point in points}
        moving = True
        while moving:
            moving = False
            for point in points:
                if self.grown(point, changes):
                    moving = True

    def grown(self, point, changes):
        """Visits a POINT; whether its STATE has changed."""
        f, k = point
        old, new = self.table[f][k], self.new(point)
        if within_state(new, old):
            return False
        changes[point] += 1
        both = join_states(old, new)
        if point in self.heads and changes[point] > self.settings.delay:
            both = widen_states(old, both, self.settings.marks)
        self.table[f][k] = both
        return True

    def descend(self, points):
        """The further rounds; those behind one that changes nothing would change nothing, too."""
        for _ in range(self.settings.narrow):
            moving = False
            for f, k in points:
                old = self.table[f][k]
                self.table[f][k] = meet_states(old, self.new((f, k)))
                if self.table[f][k] != old:
                    moving = True
            if not moving:
                return
