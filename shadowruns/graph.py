"""Flow graphs of FUNCTIONs and PROGRAMs."""

from shadowruns.flows import Flow
from shadowruns.rings import homes, ordered_rings
from shadowruns.shapes import as_tuples


def points_many(function):
    """How many points a FUNCTION has."""
    return Flow(as_tuples(function)).many


def edges(function):
    """The list of the EDGEs of a FUNCTION, in the order in which they are created."""
    return Flow(as_tuples(function)).edges


def exit_of(function):
    """The point at which a FUNCTION ends."""
    return Flow(as_tuples(function)).end


def fed(program, point):
    """The ascending list of the POINTs that a POINT feeds."""
    whole = as_tuples(program)
    return feeding(whole, flows_of(whole))[as_tuples(point)]


def parts(program):
    """The list of the parts of a PROGRAM, each an ascending tuple."""
    whole = as_tuples(program)
    return ordered_rings(feeding(whole, flows_of(whole)))


def heads(program):
    """The ascending list of the POINTs at which descriptions are widened."""
    whole = as_tuples(program)
    flows = flows_of(whole)
    home = homes(ordered_rings(feeding(whole, flows)))
    found = [(f, head) for f, flow in enumerate(flows) for head in flow.heads]
    for begin, end, g in calls(whole, flows):
        if home[begin] == home[(g, 0)]:
            found.extend([(g, 0), end])
    return sorted(set(found))


def flows_of(program):
    """The Flow of each FUNCTION."""
    return [Flow(function) for function in program]


def calls(program, flows):
    """For each call its beginning and end, both POINTs, and the index of the called FUNCTION."""
    places = {function[0]: g for g, function in enumerate(program)}
    found = []
    for f, flow in enumerate(flows):
        for start, action, stop in flow.edges:
            if action[0] == "call":
                found.append(((f, start), (f, stop), places[action[2]]))
    return found


def feeding(program, flows):
    """For each POINT of a PROGRAM the ascending list of the POINTs that it feeds."""
    found = {(f, k): [] for f, flow in enumerate(flows) for k in range(flow.many)}
    for f, flow in enumerate(flows):
        for start, _, stop in flow.edges:
            found[(f, start)].append((f, stop))
    for begin, end, g in calls(program, flows):
        found[begin].append((g, 0))
        found[(g, flows[g].end)].append(end)
    return {point: sorted(found[point]) for point in found}
