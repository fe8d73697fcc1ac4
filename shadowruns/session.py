"""Sessions: a PROGRAM that is edited, and its TABLE."""

from shadowruns.engine import Settings
from shadowruns.errors import NoFunction, NoProgram
from shadowruns.programs import is_program
from shadowruns.scopes import replaced
from shadowruns.shapes import as_tuples
from shadowruns.telling import Telling
from shadowruns.verdicts import all_verdicts


class Session:
    """A PROGRAM, VALUEs for the parameters of main and Settings, with the operations in effect.

    past has for each of these operations the PROGRAM and the VALUEs ahead of it, and the index of
    the FUNCTION that it replaced, or None.
    """

    def __init__(self, program, begin, settings=None):
        self.settings = copy_of(settings)
        self.functions = as_tuples(program)
        self.arguments = as_tuples(begin)
        self.past = []
        self.telling = Telling(self.functions, self.arguments, self.settings)
        self.telling.tell(None, None)

    def replace(self, function):
        """The FUNCTION takes the place of the one with its NAME."""
        new = as_tuples(function)
        names = [other[0] for other in self.functions]
        if new[0] not in names:
            raise NoFunction(new[0])
        g = names.index(new[0])
        functions = replaced(self.functions, g, new)
        if not is_program(functions) or len(functions[0][1]) != len(self.arguments):
            raise NoProgram()
        self.past.append((self.functions, self.arguments, g))
        self.edit(functions, self.arguments, g)

    def begin_with(self, begin):
        """Other VALUEs for the parameters of main."""
        arguments = as_tuples(begin)
        if len(arguments) != len(self.arguments):
            raise NoProgram()
        self.past.append((self.functions, self.arguments, None))
        self.edit(self.functions, arguments, None)

    def undo(self):
        """Takes back the last operation in effect; whether there was one."""
        if len(self.past) == 0:
            return False
        functions, arguments, g = self.past.pop()
        self.edit(functions, arguments, g)
        return True

    def edit(self, functions, arguments, g):
        """Goes on with this PROGRAM, in which the FUNCTION g was replaced, and these VALUEs."""
        before = self.telling
        self.functions = functions
        self.arguments = arguments
        self.telling = Telling(functions, arguments, self.settings)
        self.telling.tell(before, g)

    def program(self):
        """The PROGRAM now."""
        return self.functions

    def begin(self):
        """The VALUEs of the parameters of main now."""
        return self.arguments

    def table(self):
        """What analyse returns now."""
        return [list(row) for row in self.telling.rounds.rows]

    def verdicts(self):
        """The verdicts of all risks now."""
        return all_verdicts(self.functions, self.telling.rounds.rows)

    def operations(self):
        """How many operations are in effect."""
        return len(self.past)

    def computed(self):
        """The ascending list of the POINTs that the last successful operation made it compute."""
        return list(self.telling.work)

    def __eq__(self, other):
        return (
            isinstance(other, Session) and self.functions == other.functions and self.arguments == other.arguments
            and self.settings == other.settings
        )

    def __repr__(self):
        return f"Session({len(self.functions)} functions, {size_of(self.telling.rounds.rows)} points)"


def size_of(table):
    """How many POINTs a TABLE has."""
    return sum([len(row) for row in table])


def copy_of(settings):
    """Settings of its own."""
    if settings is None:
        return Settings()
    return Settings(
        gaps=settings.gaps, delay=settings.delay, marks=settings.marks, narrow=settings.narrow, order=settings.order)
