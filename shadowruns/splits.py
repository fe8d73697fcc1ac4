"""Changed PROGRAMs that have the same runs: loops unrolled, FUNCTIONs copied, cases separated."""

from shadowruns.copies import Renaming, Unrolling, block_layout, condition_layout
from shadowruns.errors import NoFunction, Taken, TooMany, Unsafe
from shadowruns.graph import points_many
from shadowruns.mixing import join_states
from shadowruns.programs import variables
from shadowruns.scopes import replaced
from shadowruns.shapes import as_tuples
from shadowruns.walks import atoms_in, calls_in, expression_parts


def unrolled(program, times):
    """The PROGRAM with each loop begun so many times by ifs, and the origins of its POINTs."""
    unrolling = Unrolling(times)
    made = []
    origins = []
    for f, function in enumerate(as_tuples(program)):
        block, points, behind = unrolling.block(function[3], 1)
        made.append(with_body(function, block))
        points = [0] + points + list(range(behind, points_many(function)))
        origins.append([None if k is None else (f, k) for k in points])
    return (tuple(made), origins)


def copied(program, name, names):
    """The PROGRAM in which the first calls of a FUNCTION call copies of it, and the origins."""
    functions = as_tuples(program)
    g = place_of(functions, name)
    taken = [function[0] for function in functions]
    for new in names:
        if new in taken:
            raise Taken(new)
        taken.append(new)
    others = [function for function in functions if function[0] != name]
    many = len([call for function in others for call in calls_in(function) if call[2] == name])
    if len(names) > many:
        raise TooMany(many)
    renaming = Renaming(name, names)
    made = [
        with_body(function, renaming.block(function[3])) if function in others else function
        for function in functions
    ]
    copies = [(new,) + functions[g][1:] for new in names]
    origins = [own_points(f, function) for f, function in enumerate(functions)]
    return (tuple(made + copies), origins + [own_points(g, functions[g]) for _ in names])


def parted(program, name, condition):
    """The PROGRAM with a FUNCTION that does its body in two cases, and the origins of its POINTs."""
    functions = as_tuples(program)
    chosen = as_tuples(condition)
    f = place_of(functions, name)
    function = functions[f]
    if not is_safe(chosen, variables(function)):
        raise Unsafe(chosen)
    made = with_body(function, (("if", chosen, function[3], function[3]),))
    origins = [own_points(g, other) for g, other in enumerate(functions)]
    origins[f] = [None if k is None else (f, k) for k in parted_points(function, chosen)]
    return (replaced(functions, f, made), origins)


def folded(program, origins, table):
    """The joins of the STATEs of a TABLE of a changed PROGRAM, for the POINTs of the old one."""
    found = [[None] * points_many(function) for function in as_tuples(program)]
    for places, states in zip(as_tuples(origins), as_tuples(table)):
        for place, state in zip(places, states):
            if place is not None:
                f, k = place
                found[f][k] = join_states(found[f][k], state)
    return found


def with_body(function, block):
    """The FUNCTION with another body."""
    return replaced(function, 3, block)


def place_of(program, name):
    """The index of the FUNCTION with this NAME."""
    for f, function in enumerate(program):
        if function[0] == name:
            return f
    raise NoFunction(name)


def own_points(f, function):
    """The POINTs of a FUNCTION, ascending."""
    return [(f, k) for k in range(points_many(function))]


def is_safe(condition, names):
    """Whether a CONDITION cannot fault and has no variables but these."""
    for atom in atoms_in(condition):
        for part in expression_parts(atom[1]) + expression_parts(atom[2]):
            if part[0] in ("item", "div", "mod") or (part[0] == "var" and part[1] not in names):
                return False
    return True


def parted_points(function, condition):
    """The points, or None, that those of the FUNCTION with separated cases stand for."""
    size, true, false = condition_layout(condition)
    many, end = block_layout(function[3])
    choice = [None] * (size + 2)
    if many > 0:
        choice[1 + true] = 0
        choice[1 + false] = 0
    case = [None if k == end else k for k in range(1, many + 1)]
    return choice + case + case + [end] + list(range(many + 1, points_many(function)))
