"""PROGRAMs read from their lines."""

from shadowruns.grammar import are_names, is_name
from shadowruns.written import CONDITIONS, bound_in, is_bound, number_in, parts_in


class Block:
    """A BLOCK that is being read, and what it belongs to: "function", or "if" or "while" with a CONDITION.

    first is the BLOCK ahead of the else of an if, None if there was no else yet.
    """

    def __init__(self, sign, condition):
        self.sign = sign
        self.condition = condition
        self.first = None
        self.statements = []


class Reader:
    """What has been read of a PROGRAM; name is None where no FUNCTION has begun or the last one has ended."""

    def __init__(self):
        self.functions = []
        self.calls = []
        self.name = None
        self.parameters = ()
        self.arrays = []
        self.blocks = []

    def takes(self, k, line):
        """Reads the line k; whether it can stand here."""
        words = line.split(" ")
        sign, rest = words[0], words[1:]
        if self.name is None:
            return sign == "function" and self.takes_function(rest)
        if sign == "array":
            return self.takes_array(rest)
        if sign in ("if", "while"):
            return self.takes_condition(sign, rest)
        if sign == "else":
            return len(rest) == 0 and self.takes_else()
        if sign == "end":
            return len(rest) == 0 and self.takes_end()
        if sign == "return":
            return self.takes_return(rest)
        statement = self.statement_in(sign, rest)
        if statement is None:
            return False
        if sign == "call":
            self.calls.append((k, statement[2], len(statement[3])))
        self.blocks[-1].statements.append(statement)
        return True

    def takes_function(self, words):
        """The line of a FUNCTION: its NAME and its parameters."""
        if len(words) == 0 or not is_name(words[0]) or not are_names(tuple(words[1:])):
            return False
        if words[0] in [function[0] for function in self.functions]:
            return False
        self.name = words[0]
        self.parameters = tuple(words[1:])
        self.arrays = []
        self.blocks = [Block("function", None)]
        return True

    def takes_array(self, words):
        """The line of an array: its NAME and its length."""
        if len(self.blocks) > 1 or len(self.blocks[0].statements) > 0 or len(words) != 2:
            return False
        length = number_in(words[1])
        if not self.is_variable(words[0]) or words[0] in self.parameters or length is None or length < 1:
            return False
        self.arrays.append((words[0], length))
        return True

    def takes_condition(self, sign, words):
        """The line of an if or a while."""
        condition = self.condition_in(words)
        if condition is None:
            return False
        self.blocks.append(Block(sign, condition))
        return True

    def takes_else(self):
        """The line behind the first BLOCK of an if."""
        block = self.blocks[-1]
        if block.sign != "if" or block.first is not None:
            return False
        block.first = tuple(block.statements)
        block.statements = []
        return True

    def takes_end(self):
        """The line behind an if or a while."""
        block = self.blocks[-1]
        inner = tuple(block.statements)
        if block.sign == "function" or (block.first is not None and len(inner) == 0):
            return False
        if block.sign == "while":
            made = ("while", block.condition, inner)
        elif block.first is None:
            made = ("if", block.condition, inner, ())
        else:
            made = ("if", block.condition, block.first, inner)
        self.blocks.pop()
        self.blocks[-1].statements.append(made)
        return True

    def takes_return(self, words):
        """The last line of a FUNCTION."""
        result = self.expressions_in(words, 1)
        if result is None or len(self.blocks) > 1:
            return False
        body = tuple(self.blocks[0].statements)
        self.functions.append((self.name, self.parameters, tuple(self.arrays), body, result[0]))
        self.name = None
        return True

    def statement_in(self, sign, words):
        """The STATEMENT that a sign and words are, of one line; None if they are none."""
        if sign in ("check", "assume"):
            condition = self.condition_in(words)
            return None if condition is None else (sign, condition)
        if len(words) == 0:
            return None
        if sign == "put":
            found = self.expressions_in(words[1:], 2)
            return None if found is None or not self.is_array(words[0]) else (sign, words[0], found[0], found[1])
        if not self.is_variable(words[0]):
            return None
        if sign == "set":
            found = self.expressions_in(words[1:], 1)
            return None if found is None else (sign, words[0], found[0])
        if sign == "input":
            return self.reading_in(words)
        if sign == "call":
            return self.call_in(words)
        return None

    def reading_in(self, words):
        """The input of a variable between two bounds; None if words are none."""
        if len(words) != 3 or not is_bound(words[1]) or not is_bound(words[2]):
            return None
        low, high = bound_in(words[1]), bound_in(words[2])
        if low is not None and high is not None and low > high:
            return None
        return ("input", words[0], low, high)

    def call_in(self, words):
        """The call of a FUNCTION for a variable; None if words are none."""
        if len(words) < 2 or not is_name(words[1]):
            return None
        found = self.parts_of(words[2:])
        if found is None or any([part[0] in CONDITIONS for part in found]):
            return None
        return ("call", words[0], words[1], tuple(found))

    def expressions_in(self, words, many):
        """The list of the EXPRESSIONs that words are; None if they are not so many."""
        found = self.parts_of(words)
        if found is None or len(found) != many or any([part[0] in CONDITIONS for part in found]):
            return None
        return found

    def condition_in(self, words):
        """The CONDITION that words are; None if they are none."""
        found = self.parts_of(words)
        if found is None or len(found) != 1 or found[0][0] not in CONDITIONS:
            return None
        return found[0]

    def parts_of(self, words):
        """The list of the EXPRESSIONs and CONDITIONs that words are; None if they are none."""
        return parts_in(words, [name for name, _ in self.arrays])

    def is_array(self, word):
        """Whether a word is the NAME of an array of the FUNCTION."""
        return word in [name for name, _ in self.arrays]

    def is_variable(self, word):
        """Whether a word may be the NAME of a variable of the FUNCTION."""
        return is_name(word) and not self.is_array(word)
