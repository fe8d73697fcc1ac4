"""Runs of PROGRAMs."""

from shadowruns.machine import Machine, Run
from shadowruns.shapes import as_tuples


def run(program, numbers, inputs, steps):
    """Runs the main function: a pair of the end and the trace of at most so many steps."""
    return run_of(Machine(as_tuples(program)), numbers, inputs, steps)


def frames_at(trace, point):
    """The list of the FRAMEs that a trace has at a POINT, in its order."""
    place = as_tuples(point)
    return [frame for at, frame in as_tuples(trace) if at == place]


def witness(program, tries, point, kind, steps):
    """The index of the first pair (numbers, inputs) with this fault at this POINT; None without one."""
    machine = Machine(as_tuples(program))
    fault = ("fault", kind, as_tuples(point))
    for k, (numbers, inputs) in enumerate(tries):
        if run_of(machine, numbers, inputs, steps)[0] == fault:
            return k
    return None


def run_of(machine, numbers, inputs, steps):
    """The end and the trace of a run."""
    going = Run(machine, inputs, steps)
    going.go(numbers)
    return (going.end, going.trace)
