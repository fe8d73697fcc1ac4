"""Points by the ways to what makes them, and what those of unrolled functions stand for by the words of [18].

The name of a point is a tuple: the places of the statements around it, then what it is there.
"""

from shadowruns.flows import Flow


def condition_names(condition):
    """The names of the points of a condition, and of those for true and for false."""
    flow = Flow(("f", (), (), (("check", condition),), ("num", 0)))
    # a check lays out its condition from 0; one edge fails, from false to true
    false, true = [(start, stop) for start, action, stop in flow.edges if action == ("fail",)][0]
    return [("c", k) for k in range(1, flow.many)], ("c", true), ("c", false)


def plain_many(statement):
    return Flow(("f", (), (), (statement,), ("num", 0))).many - 1


def names_of(statement):
    """The names of the points of a statement, in the order in which they are created."""
    if statement[0] == "if":
        return [("first",)] + condition_names(statement[1])[0] + block_names("B", statement[2]) + block_names(
            "C", statement[3]) + [("q",)]
    if statement[0] == "while":
        return [("head",)] + condition_names(statement[1])[0] + block_names("B", statement[2])
    return [("plain", k) for k in range(plain_many(statement))]


def block_names(word, block):
    return [(word, i) + name for i, statement in enumerate(block) for name in names_of(statement)]


def function_names(function):
    """The names of all points of a function."""
    names = [("entry",)] + block_names("B", function[3])
    many = Flow(function).many
    return names + [("result", k) for k in range(many - len(names))]


def stands_for(name, old, times, left=None, outermost=True):
    """The old name that a name within a statement stands for, the old statement being old; or None.

    left is how often the loop is still unrolled here.
    """
    if old[0] == "if":
        if name[0] in ("B", "C"):
            return within(name, old[2] if name[0] == "B" else old[3], times)
        return name
    if old[0] != "while" or times == 0:
        return name
    left = times if left is None else left
    _, _, false = condition_names(old[1])
    if name in (("first",), ("head",)):
        return ("head",)
    if name == ("q",):
        return false if outermost else None
    if name[0] == "c":
        return None if name == false else name
    if left > 0 and name[1] == len(old[2]):
        return stands_for(name[2:], old, times, left - 1, False)
    return within(name, old[2], times)


def within(name, block, times):
    """The same for a name that begins with a place in a block."""
    found = stands_for(name[2:], block[name[1]], times)
    return None if found is None else name[:2] + found


def unrolled_origins(f, old, new, times):
    """The list of the old points that the points of a new function stand for."""
    places = {name: (f, k) for k, name in enumerate(function_names(old))}
    found = []
    for name in function_names(new):
        if name[0] == "B":
            name = within(name, old[3], times)
        found.append(None if name is None else places[name])
    return found


def unrolled_block(block, times):
    """A block with its loops unrolled by the words."""
    found = []
    for statement in block:
        if statement[0] == "if":
            statement = ("if", statement[1], unrolled_block(statement[2], times), unrolled_block(statement[3], times))
        if statement[0] == "while":
            statement = unrolled_loop(statement[1], unrolled_block(statement[2], times), times)
        found.append(statement)
    return tuple(found)


def unrolled_loop(condition, block, times):
    if times == 0:
        return ("while", condition, block)
    return ("if", condition, block + (unrolled_loop(condition, block, times - 1),), ())
