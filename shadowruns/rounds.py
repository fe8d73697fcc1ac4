"""Rounds of visits to the POINTs of a PROGRAM that make a table of descriptions."""


class Rounds:
    """The rows of a table that is being made, and what its descriptions come from."""

    def __init__(self, plan, begin, settings, heads):
        self.plan = plan
        self.kind = plan.kind
        self.first = begin
        self.settings = settings
        self.heads = {point: True for point in heads}
        self.rows = [[None] * many for many in plan.sizes]

    def tell(self, parts):
        """Makes the descriptions of these parts, one part behind the other."""
        for part in parts:
            points = self.in_order(part)
            self.ascend(points)
            self.descend(points)

    def in_order(self, points):
        """The POINTs in the order in which they are visited."""
        first = [point for point in self.settings.order if point in points]
        return first + [point for point in points if point not in first]

    def new(self, point):
        """What reaches a POINT at this time."""
        return self.plan.reaching(self.first, self.rows, point)

    def ascend(self, points):
        """Rounds until one changes nothing."""
        changes = {point: 0 for point in points}
        moving = True
        while moving:
            moving = False
            for point in points:
                if self.grown(point, changes):
                    moving = True

    def grown(self, point, changes):
        """Visits a POINT; whether its description has changed."""
        f, k = point
        old, new = self.rows[f][k], self.new(point)
        if self.kind.inside(new, old):
            return False
        changes[point] += 1
        both = self.kind.both(old, new)
        if point in self.heads and changes[point] > self.settings.delay:
            both = self.kind.widened(old, both, self.settings.marks)
        self.rows[f][k] = both
        return True

    def descend(self, points):
        """The further rounds; those behind one that changes nothing would change nothing, too."""
        for _ in range(self.settings.narrow):
            moving = False
            for f, k in points:
                old = self.rows[f][k]
                self.rows[f][k] = self.kind.common(old, self.new((f, k)))
                if self.rows[f][k] != old:
                    moving = True
            if not moving:
                return
