"""Requests to a session, all in one text."""

from shadowruns.checker import result_of
from shadowruns.errors import BadLine
from shadowruns.running import run
from shadowruns.session import Session
from shadowruns.texts import program_in, value_text
from shadowruns.values import EVERY, value_of
from shadowruns.written import bound_in, is_bound, number_in, number_text

MOST_POINTS = 500


def answers(text):
    """The answers to the requests behind the first empty line, for the PROGRAM ahead of it."""
    lines = text.split("\n")
    split = lines.index("") if "" in lines else len(lines)
    program = program_in("\n".join(lines[:split]))
    for k in range(split + 1, len(lines)):
        if not is_request(lines[k].split(" ")):
            raise BadLine(k)
    session = Session(program, [EVERY for _ in program[0][1]])
    return [answer(session, line.split(" ")) for line in lines[split + 1:]]


def is_request(words):
    """Whether words are written like a request."""
    sign, rest = words[0], words[1:]
    if sign in ("verdicts", "result", "undo"):
        return len(rest) == 0
    if sign == "begin":
        return all([is_bound(word) for word in rest])
    if sign == "state":
        return len(rest) == 2 and are_numbers(rest)
    if sign == "run":
        return rest.count("/") == 1 and are_numbers([word for word in rest if word != "/"])
    return False


def are_numbers(words):
    """Whether all words are integers."""
    return all([number_in(word) is not None for word in words])


def answer(session, words):
    """The answer to a request."""
    sign, rest = words[0], words[1:]
    if sign == "begin":
        return begun(session, [bound_in(word) for word in rest])
    if sign == "state":
        return state_text(session.table(), number_in(rest[0]), number_in(rest[1]))
    if sign == "verdicts":
        return verdicts_text(session.verdicts())
    if sign == "result":
        value = result_of(session.program(), session.table())
        return "unreached" if value is None else value_text(value)
    if sign == "run":
        split = rest.index("/")
        numbers = [number_in(word) for word in rest[:split]]
        return end_text(session.program(), numbers, [number_in(word) for word in rest[split + 1:]])
    return "yes" if session.undo() else "no"


def begun(session, bounds):
    """Other VALUEs for the parameters, from the bounds of each."""
    pairs = list(zip(bounds[::2], bounds[1::2]))
    if len(bounds) != 2 * len(session.begin()):
        return "refused"
    if any([low is not None and high is not None and low > high for low, high in pairs]):
        return "refused"
    session.begin_with([value_of(low, high, 1, 0) for low, high in pairs])
    return "done"


def state_text(table, f, k):
    """The VALUEs of the STATE of a POINT."""
    if f < 0 or f >= len(table) or k < 0 or k >= len(table[f]):
        return "refused"
    state = table[f][k]
    if state is None:
        return "unreached"
    return ", ".join([value_text(value) for value in state[0]])


def verdicts_text(rows):
    """All verdicts."""
    if len(rows) == 0:
        return "none"
    return ", ".join([f"{f} {k} {kind} {word}" for (f, k), kind, word in rows])


def end_text(program, numbers, inputs):
    """The end of a run."""
    if len(numbers) != len(program[0][1]):
        return "refused"
    end, _ = run(program, numbers, inputs, MOST_POINTS)
    if end[0] == "done":
        return f"done {number_text(end[1])}"
    if end[0] == "fault":
        return f"fault {end[1]}"
    return end[0]
