"""Where a FUNCTION has its variables and arrays in FRAMEs and STATEs."""

from shadowruns.programs import variables


class Scope:
    """The places of the variables and arrays of a FUNCTION, with all that they need of it."""

    def __init__(self, function):
        names = variables(function)
        self.wide = len(names)
        self.parameters_many = len(function[1])
        self.place = {name: k for k, name in enumerate(names)}
        self.row = {array[0]: k for k, array in enumerate(function[2])}
        self.lengths = tuple([array[1] for array in function[2]])
        self.result = function[4]

    def length(self, array):
        """The length of an array."""
        return self.lengths[self.row[array]]


def replaced(things, k, thing):
    """The tuple with another thing at the place k."""
    return things[:k] + (thing,) + things[k + 1:]
