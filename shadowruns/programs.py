"""PROGRAMs and the variables of their FUNCTIONs."""

from shadowruns.grammar import are_arrays, are_names, is_block, is_expression, is_name
from shadowruns.shapes import as_tuples
from shadowruns.walks import arrays_in, calls_in, variables_in


def variables(function):
    """The tuple of the parameters, followed by all other variables, ascending."""
    whole = as_tuples(function)
    parameters = whole[1]
    others = [name for name in variables_in(whole) if name not in parameters]
    return parameters + tuple(sorted(set(others)))


def is_program(thing):
    """Whether thing is a PROGRAM."""
    if not isinstance(thing, tuple) or len(thing) == 0:
        return False
    if not all([is_function(part) for part in thing]):
        return False
    names = [function[0] for function in thing]
    return are_names(tuple(names)) and calls_fit(thing)


def is_function(thing):
    """Whether thing is a FUNCTION, whatever its calls name."""
    if not isinstance(thing, tuple) or len(thing) != 5:
        return False
    name, parameters, arrays, body, result = thing
    if not is_name(name) or not are_names(parameters) or not are_arrays(arrays):
        return False
    return is_block(body) and is_expression(result) and arrays_fit(thing)


def arrays_fit(function):
    """Whether a FUNCTION uses no arrays but its own, and no variable has the NAME of one."""
    own = [array[0] for array in function[2]]
    if any([name in own for name in variables(function)]):
        return False
    return all([name in own for name in arrays_in(function)])


def calls_fit(program):
    """Whether all calls name a FUNCTION of the PROGRAM and have as many EXPRESSIONs as it needs."""
    needed = {function[0]: len(function[1]) for function in program}
    for function in program:
        for call in calls_in(function):
            if call[2] not in needed or needed[call[2]] != len(call[3]):
                return False
    return True
