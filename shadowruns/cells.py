"""The classes of a NAMING, and SORTs of them.

A cell is all integers of one stretch with one remainder, if there are any; it is a VALUE.
"""

from shadowruns.shapes import is_whole
from shadowruns.values import joined, value_apply, value_meet, value_of


class Cells:
    """The cells of a NAMING with their classes; it keeps the wholes and results that it worked out."""

    def __init__(self, naming):
        self.cuts, self.m, self.names = naming
        self.pairs = []
        for (low, high), row in zip(stretches(self.cuts), self.names):
            for r, name in enumerate(row):
                if name is not None:
                    self.pairs.append((value_of(low, high, self.m, r), name))
        self.wholes = {}
        self.results = {}

    def class_of(self, n):
        """The class of an integer."""
        return self.names[len([cut for cut in self.cuts if cut <= n])][n % self.m]

    def meeting(self, value):
        """The SORT of the classes with an integer in a VALUE."""
        return as_sort([name for cell, name in self.pairs if value_meet(cell, value) is not None])

    def whole(self, sort):
        """The least VALUE that contains a SORT; None if it is empty."""
        if sort not in self.wholes:
            found = None
            for cell in self.cells_of(sort):
                found = joined(found, cell)
            self.wholes[sort] = found
        return self.wholes[sort]

    def applied(self, sign, one, other):
        """The SORT of the results of an operation, as the cells of both SORTs show it."""
        key = (sign, one, other)
        if key not in self.results:
            self.results[key] = as_sort(self.worked_out(sign, one, other))
        return self.results[key]

    def worked_out(self, sign, one, other):
        """The same: of two classes from their cells, of more from the results of each two."""
        found = []
        if len(one) > 1 or len(other) > 1:
            for left in one:
                for right in other:
                    found.extend(self.applied(sign, (left,), (right,)))
            return found
        for left in self.cells_of(one):
            for right in self.cells_of(other):
                value = value_apply(sign, left, right)
                if value is not None:
                    found.extend(self.meeting(value))
        return found

    def cells_of(self, sort):
        """The cells of a SORT."""
        return [cell for cell, name in self.pairs if name in sort]


def as_sort(names):
    """The SORT of these classes."""
    return tuple(sorted(set(names)))


def stretches(cuts):
    """The SPANs of the stretches between the cuts."""
    return list(zip([None, *cuts], [cut - 1 for cut in cuts] + [None]))


def has_naming_form(thing):
    """Whether thing, which may be anything, is a NAMING."""
    if not isinstance(thing, tuple) or len(thing) != 3:
        return False
    cuts, m, names = thing
    if not isinstance(cuts, tuple) or not all([is_whole(cut) for cut in cuts]):
        return False
    if not all([ahead < cut for ahead, cut in zip(cuts, cuts[1:])]) or not is_whole(m) or m < 1:
        return False
    if not isinstance(names, tuple) or len(names) != len(cuts) + 1:
        return False
    return all([is_row(row, span, m) for row, span in zip(names, stretches(cuts))])


def is_row(thing, span, m):
    """Whether thing has a string for each remainder by m that an integer of the SPAN leaves, else None."""
    if not isinstance(thing, tuple) or len(thing) != m:
        return False
    return all([
        name is None if value_of(span[0], span[1], m, r) is None else isinstance(name, str)
        for r, name in enumerate(thing)
    ])
