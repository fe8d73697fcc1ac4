"""Whether a thing is written like a part of a PROGRAM.

A thing may be anything: nothing here is taken for a string, a tuple or hashable before that
is known. Which names are declared is looked at in programs.py.
"""

from shadowruns.shapes import is_whole

LETTERS = "abcdefghijklmnopqrstuvwxyz"
LONGEST_NAME = 8
WORDS = (
    "function", "array", "set", "put", "input", "if", "else", "while",
    "call", "check", "assume", "end", "return",
)
PAIR_SIGNS = ("add", "sub", "mul", "div", "mod")


def is_name(thing):
    """Whether thing is a NAME."""
    if not isinstance(thing, str) or thing in WORDS:
        return False
    if len(thing) < 1 or len(thing) > LONGEST_NAME:
        return False
    return all([letter in LETTERS for letter in thing])


def is_form(thing, sign, many):
    """Whether thing is a tuple of so many items, the first of them this sign."""
    return isinstance(thing, tuple) and len(thing) == many and thing[0] == sign


def is_expression(thing):
    """Whether thing is written like an EXPRESSION."""
    if is_form(thing, "num", 2):
        return is_whole(thing[1])
    if is_form(thing, "var", 2):
        return is_name(thing[1])
    if is_form(thing, "item", 3):
        return is_name(thing[1]) and is_expression(thing[2])
    if any([is_form(thing, sign, 3) for sign in PAIR_SIGNS]):
        return is_expression(thing[1]) and is_expression(thing[2])
    return False


def are_expressions(thing):
    """Whether thing is a tuple of EXPRESSIONs."""
    return isinstance(thing, tuple) and all([is_expression(part) for part in thing])


def is_condition(thing):
    """Whether thing is written like a CONDITION."""
    if is_form(thing, "less", 3) or is_form(thing, "equal", 3):
        return is_expression(thing[1]) and is_expression(thing[2])
    if is_form(thing, "not", 2):
        return is_condition(thing[1])
    if is_form(thing, "and", 3) or is_form(thing, "or", 3):
        return is_condition(thing[1]) and is_condition(thing[2])
    return False


def are_bounds(low, high):
    """Whether low and high are integers or None, and low is not greater."""
    if low is None:
        return high is None or is_whole(high)
    if high is None:
        return is_whole(low)
    return is_whole(low) and is_whole(high) and low <= high


def is_statement(thing):
    """Whether thing is written like a STATEMENT."""
    if is_form(thing, "set", 3):
        return is_name(thing[1]) and is_expression(thing[2])
    if is_form(thing, "put", 4):
        return is_name(thing[1]) and is_expression(thing[2]) and is_expression(thing[3])
    if is_form(thing, "input", 4):
        return is_name(thing[1]) and are_bounds(thing[2], thing[3])
    if is_form(thing, "if", 4):
        return is_condition(thing[1]) and is_block(thing[2]) and is_block(thing[3])
    if is_form(thing, "while", 3):
        return is_condition(thing[1]) and is_block(thing[2])
    if is_form(thing, "call", 4):
        return is_name(thing[1]) and is_name(thing[2]) and are_expressions(thing[3])
    if is_form(thing, "check", 2) or is_form(thing, "assume", 2):
        return is_condition(thing[1])
    return False


def is_block(thing):
    """Whether thing is written like a BLOCK."""
    return isinstance(thing, tuple) and all([is_statement(part) for part in thing])


def are_names(thing):
    """Whether thing is a tuple of different NAMEs."""
    if not isinstance(thing, tuple) or not all([is_name(part) for part in thing]):
        return False
    return len(set(thing)) == len(thing)


def is_array(thing):
    """Whether thing is a pair of a NAME and a length."""
    if not isinstance(thing, tuple) or len(thing) != 2:
        return False
    return is_name(thing[0]) and is_whole(thing[1]) and thing[1] >= 1


def are_arrays(thing):
    """Whether thing is a tuple of pairs of a NAME and a length, the NAMEs different."""
    if not isinstance(thing, tuple) or not all([is_array(part) for part in thing]):
        return False
    return are_names(tuple([part[0] for part in thing]))
