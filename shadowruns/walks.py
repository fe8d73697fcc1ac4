"""What stands in a FUNCTION: its STATEMENTs, EXPRESSIONs, ATOMs. All of it in tuples."""


def blocks_of(statement):
    """The BLOCKs that stand directly in a STATEMENT."""
    if statement[0] == "if":
        return [statement[2], statement[3]]
    if statement[0] == "while":
        return [statement[2]]
    return []


def statements_in(block):
    """All STATEMENTs of a BLOCK, each ahead of those that stand in it."""
    found = []
    for statement in block:
        found.append(statement)
        for inner in blocks_of(statement):
            found.extend(statements_in(inner))
    return found


def atoms_in(condition):
    """The ATOMs of a CONDITION, as they are written."""
    if condition[0] in ("less", "equal"):
        return [condition]
    found = []
    for part in condition[1:]:
        found.extend(atoms_in(part))
    return found


def expressions_of(statement):
    """The whole EXPRESSIONs of a STATEMENT, not those of its BLOCKs."""
    sign = statement[0]
    if sign == "input":
        return []
    if sign == "set":
        return [statement[2]]
    if sign == "put":
        return [statement[2], statement[3]]
    if sign == "call":
        return list(statement[3])
    found = []
    for atom in atoms_in(statement[1]):
        found.extend([atom[1], atom[2]])
    return found


def operands(expression):
    """The EXPRESSIONs that stand directly in an EXPRESSION."""
    if expression[0] in ("num", "var"):
        return []
    if expression[0] == "item":
        return [expression[2]]
    return [expression[1], expression[2]]


def expression_parts(expression):
    """An EXPRESSION and all that stand in it."""
    found = [expression]
    for part in operands(expression):
        found.extend(expression_parts(part))
    return found


def expressions_in(function):
    """All EXPRESSIONs of a FUNCTION, also those that stand in others."""
    found = []
    for statement in statements_in(function[3]):
        for expression in expressions_of(statement):
            found.extend(expression_parts(expression))
    found.extend(expression_parts(function[4]))
    return found


def calls_in(function):
    """The STATEMENTs of a FUNCTION that are calls."""
    return [statement for statement in statements_in(function[3]) if statement[0] == "call"]


def arrays_in(function):
    """The NAMEs that a FUNCTION uses as arrays, as often as it does."""
    found = [part[1] for part in expressions_in(function) if part[0] == "item"]
    for statement in statements_in(function[3]):
        if statement[0] == "put":
            found.append(statement[1])
    return found


def variables_in(function):
    """The NAMEs that a FUNCTION uses as variables, as often as it does, without parameters."""
    found = [part[1] for part in expressions_in(function) if part[0] == "var"]
    for statement in statements_in(function[3]):
        if statement[0] in ("set", "input", "call"):
            found.append(statement[1])
    return found
