"""Verdicts: which faults never happen, and which always do where a run gets there."""

from shadowruns.errors import NoRisk
from shadowruns.graph import flows_of
from shadowruns.scopes import Scope
from shadowruns.shapes import as_tuples
from shadowruns.states import expression_value, transferred
from shadowruns.values import contains, value_cut

KINDS = {"nonzero": "division", "within": "index", "fail": "check"}


def risks(program):
    """The ascending list of the pairs (POINT, kind) where a run may fault."""
    return [(point, KINDS[action[0]]) for point, action in risky_edges(as_tuples(program))]


def verdict(program, table, point):
    """What a TABLE tells of the risk of a POINT."""
    functions = as_tuples(program)
    place = as_tuples(point)
    for at, action in risky_edges(functions):
        if at == place:
            return verdict_of(functions, table, at, action)
    raise NoRisk(place)


def verdicts(program, table):
    """The list of the triples (POINT, kind, verdict) for all risks."""
    return all_verdicts(as_tuples(program), table)


def faults_in(program, table):
    """The triples of verdicts that are "always" or "maybe"."""
    return [row for row in verdicts(program, table) if row[2] in ("always", "maybe")]


def all_verdicts(program, table):
    """The same for a PROGRAM that is tuples throughout."""
    return [
        (point, KINDS[action[0]], verdict_of(program, table, point, action))
        for point, action in risky_edges(program)
    ]


def risky_edges(program):
    """The ascending list of the pairs of a POINT and its ACTION that may fault; a POINT has one at most."""
    found = []
    for f, flow in enumerate(flows_of(program)):
        for start, action, _ in flow.edges:
            if action[0] in KINDS:
                found.append(((f, start), action))
    return sorted(found, key=lambda row: row[0])


def verdict_of(program, table, point, action):
    """The verdict of a POINT with this ACTION."""
    f, k = point
    function, state = program[f], table[f][k]
    if state is None:
        return "unreached"
    if transferred(function, state, action) is None:
        return "always"
    if is_harmless(function, state, action):
        return "never"
    return "maybe"


def is_harmless(function, state, action):
    """Whether no value that the EXPRESSION has in the STATE is a fault."""
    value = expression_value(function, state, action[-1])
    if action[0] == "nonzero":
        return not contains(value, 0)
    last = Scope(function).length(action[1]) - 1
    return value == value_cut(value, 0, last)
