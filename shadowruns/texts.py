"""PROGRAMs and VALUEs as texts."""

from shadowruns.errors import BadText
from shadowruns.lines import Reader
from shadowruns.shapes import as_tuples
from shadowruns.written import bound_text, number_text, part_text


def program_text(program):
    """The lines of a PROGRAM, separated by line feeds."""
    found = []
    for function in as_tuples(program):
        found.extend(function_lines(function))
    return "\n".join(found)


def program_in(text):
    """The PROGRAM with this text."""
    reader = Reader()
    lines = text.split("\n")
    for k, line in enumerate(lines):
        if not reader.takes(k, line):
            raise BadText(k)
    if reader.name is not None:
        raise BadText(len(lines))
    needed = {function[0]: len(function[1]) for function in reader.functions}
    for k, name, many in reader.calls:
        if needed.get(name) != many:
            raise BadText(k)
    return tuple(reader.functions)


def value_text(value):
    """A VALUE as a text: an integer, or bounds and, if it has one, a remainder."""
    low, high, m, r = value
    if m == 0:
        return number_text(r)
    if m == 1:
        return f"{bound_text(low)}..{bound_text(high)}"
    return f"{bound_text(low)}..{bound_text(high)} {number_text(m)}:{number_text(r)}"


def function_lines(function):
    """The lines of a FUNCTION."""
    name, parameters, arrays, block, result = function
    found = [" ".join(("function", name) + parameters)]
    for array, length in arrays:
        found.append(f"array {array} {number_text(length)}")
    return found + block_lines(block) + [f"return {part_text(result)}"]


def block_lines(block):
    """The lines of a BLOCK."""
    found = []
    for statement in block:
        found.extend(statement_lines(statement))
    return found


def statement_lines(statement):
    """The lines of a STATEMENT."""
    sign = statement[0]
    if sign == "if":
        other = block_lines(statement[3])
        if len(other) > 0:
            other = ["else"] + other
        return [f"if {part_text(statement[1])}"] + block_lines(statement[2]) + other + ["end"]
    if sign == "while":
        return [f"while {part_text(statement[1])}"] + block_lines(statement[2]) + ["end"]
    return [" ".join([sign] + statement_words(statement))]


def statement_words(statement):
    """What stands behind the sign of a STATEMENT that is one line."""
    sign = statement[0]
    if sign == "input":
        return [statement[1], bound_text(statement[2]), bound_text(statement[3])]
    if sign == "call":
        return [statement[1], statement[2]] + [part_text(expression) for expression in statement[3]]
    if sign in ("check", "assume"):
        return [part_text(statement[1])]
    return [statement[1]] + [part_text(expression) for expression in statement[2:]]
