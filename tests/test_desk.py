"""desk.py ([23])."""

import random
import unittest

from shadowruns.checker import result_of
from shadowruns.desk import answers
from shadowruns.engine import analyse
from shadowruns.errors import BadLine, BadText
from shadowruns.graph import points_many
from shadowruns.running import run
from shadowruns.texts import program_text, value_text
from shadowruns.values import EVERY, value_of
from shadowruns.verdicts import verdicts
from tests.samples import LOOP, MORE, ONE, TINY, TWO, X, Y, ZERO, body, likely, program
from tests.tables import loop_to, num

TWO_OF = program(("set", "z", ("div", X, Y)), parameters=("x", "y"), result=("var", "z"))
BARE = (body(),)


def asked(thing, *requests):
    """The answers to requests for a program."""
    return answers("\n".join([program_text(thing), ""] + list(requests)))


class Examples(unittest.TestCase):
    def test_of_the_document(self):
        self.assertEqual(
            answers(program_text(TINY) + "\n\nbegin 1 4\nverdicts\nresult\nrun 3 /\nrun 0 /\nundo"),
            ["done", "0 0 division never", "2..8", "done 2", "fault division", "yes"])


class EachRequest(unittest.TestCase):
    def test_begin(self):
        for words, value in [("1 4", (1, 4, 1, 0)), ("? ?", EVERY), ("? -3", (None, -3, 1, 0)), ("5 ?", (5, None, 1, 0)),
                             ("7 7", (7, 7, 0, 7)), ("-9999999999999 9999999999999", (1 - 10 ** 13, 10 ** 13 - 1, 1, 0))]:
            table = analyse(TINY, (value,))
            expected = ", ".join(value_text(part) for part in table[0][0][0])
            self.assertEqual(asked(TINY, f"begin {words}", "state 0 0"), ["done", expected])
        self.assertEqual(asked(TWO_OF, "begin 1 2 3 4", "state 0 0"), ["done", "1..2, 3..4, 0"])
        self.assertEqual(asked(LOOP, "begin", "undo", "undo"), ["done", "yes", "no"])

    def test_begin_that_is_refused(self):
        self.assertEqual(asked(TINY, "begin", "begin 1", "begin 1 2 3", "begin 1 2 3 4", "begin 2 1", "begin 0 -1", "begin ?",
                               "begin ? ? ?", "undo"), ["refused"] * 8 + ["no"])
        self.assertEqual(asked(TWO_OF, "begin 1 2", "begin 1 2 3", "begin 1 2 4 3", "begin 2 1 3 4", "begin 2 1 4 3",
                               "begin 1 2 3 4 5", "begin ? 1 2 ?", "undo", "undo"), ["refused"] * 6 + ["done", "yes", "no"])
        self.assertEqual(asked(LOOP, "begin 1", "begin 1 2", "begin 2 1", "undo"), ["refused"] * 3 + ["no"])

    def test_state(self):
        self.assertEqual(asked(TINY, "begin 1 4", "state 0 0", "state 0 1", "state 0 2"),
                         ["done", "1..4, 0", "1..4, 0", "1..4, 2..8"])
        self.assertEqual(asked(LOOP, "state 0 1", "state 0 2", "state 0 3"), ["0..10 2:0", "0..8 2:0", "10"])
        self.assertEqual(asked(TINY, "state 0 0"), ["-1" + "0" * 30 + "..1" + "0" * 30 + ", 0"])

    def test_state_that_is_none(self):
        self.assertEqual(asked(TINY, "begin 0 0", "state 0 0", "state 0 1", "state 0 2"),
                         ["done", "0, 0", "unreached", "unreached"])
        self.assertEqual(asked((body(), MORE), "state 1 0"), ["unreached"])

    def test_state_without_variables(self):
        self.assertEqual(asked(BARE, "state 0 0", "result"), ["", "0"])

    def test_state_of_points_that_are_not_there(self):
        self.assertEqual(asked(TWO, "state 0 3", "state 0 -1", "state 1 1", "state 2 0", "state -1 0", "state -1 -1",
                               "state 9999999999999 0", "state 0 -9999999999999", "state -2 0", "state 0 -3"), ["refused"] * 10)

    def test_verdicts(self):
        self.assertEqual(asked(LOOP, "verdicts"), ["none"])
        self.assertEqual(asked(TINY, "verdicts", "begin 0 0", "verdicts", "begin 1 ?", "verdicts"), [
            "0 0 division maybe", "done", "0 0 division always", "done", "0 0 division never"])
        thing = program(("check", ("less", X, num(5))), ("set", "y", ("item", "a", X)), parameters=("x",), arrays=(("a", 5),),
                        others=(body(name="f", parameters=("x",), result=("mod", ONE, X)),))
        # 0 when 1, unless 2; 2 fail 1; 1 within 3; 3 set 4
        self.assertEqual(asked(thing, "verdicts", "begin 0 4", "verdicts"), [
            "0 1 index maybe, 0 2 check always, 1 0 division unreached", "done",
            "0 1 index never, 0 2 check unreached, 1 0 division unreached"])

    def test_result(self):
        self.assertEqual(asked(TINY, "begin 1 4", "result", "begin 0 0", "result"), ["done", "2..8", "done", "unreached"])
        self.assertEqual(asked(LOOP, "result"), ["10"])
        self.assertEqual(asked(program(("input", "x", None, None), result=("mul", X, num(4))), "result"), [
            "-4" + "0" * 30 + "..4" + "0" * 30 + " 4:0"])

    def test_each_end_of_a_run(self):
        thing = program(
            ("if", ("equal", X, ONE), (("assume", ("less", X, X)),), ()),
            ("if", ("equal", X, num(2)), (("set", "y", ("div", X, Y)),), ()),
            ("if", ("equal", X, num(3)), (("set", "y", ("item", "a", X)),), ()),
            ("if", ("equal", X, num(4)), (("check", ("less", X, X)),), ()),
            ("if", ("equal", X, num(5)), (("input", "y", 0, 3),), ()),
            ("if", ("equal", X, num(6)), (("while", ZERO_LESS, (("set", "x", ("mul", X, X)),)),), ()),
            ("if", ("equal", X, num(7)), (("while", ZERO_LESS, ()),), ()),
            parameters=("x",), arrays=(("a", 3),), result=("sub", Y, X))
        self.assertEqual(
            asked(thing, "run 0 /", "run 1 /", "run 2 /", "run 3 /", "run 4 /", "run 5 /", "run 5 / 3", "run 5 / 4", "run 5 / 2 9",
                  "run 6 /", "run 7 /", "run -8 /", "run 0 / 1 2 3"),
            ["done 0", "stopped", "fault division", "fault index", "fault check", "inputs", "done -2", "inputs", "done -3", "great",
             "open", "done 8", "done 0"])

    def test_run_of_500_points_and_of_501(self):
        def steps(many):
            return program(*[("set", "x", num(k)) for k in range(many)], result=X)

        self.assertEqual(asked(steps(499), "run /"), ["done 498"])
        self.assertEqual(asked(steps(500), "run /"), ["open"])
        loop = program(loop_to("x", Y), parameters=("y",), result=X)
        ends = [run(loop, [n], [], 500)[0][0] for n in (160, 165, 166, 200)]
        self.assertEqual(asked(loop, "run 160 /", "run 165 /", "run 166 /", "run 200 /"), [
            f"done {n}" if end == "done" else end for n, end in zip((160, 165, 166, 200), ends)])
        self.assertEqual(set(ends), {"done", "open"})

    def test_run_without_numbers(self):
        thing = program(("input", "x", None, None), ("input", "y", None, None), result=("sub", X, Y))
        self.assertEqual(asked(thing, "run / 5 7", "run /", "run / 5", "run / -5 -7 1"), ["done -2", "inputs", "inputs", "done 2"])

    def test_run_that_is_refused(self):
        self.assertEqual(asked(TINY, "run /", "run / 1", "run 1 2 /", "run 1 2 / 3"), ["refused"] * 4)
        self.assertEqual(asked(LOOP, "run 1 /", "run 1 / 2"), ["refused"] * 2)
        self.assertEqual(asked(TWO_OF, "run 1 /", "run 6 3 /", "run 6 3 1 /", "run / 6 3"),
                         ["refused", "done 2", "refused", "refused"])

    def test_results_of_any_size(self):
        e = X
        for _ in range(6):
            e = ("mul", e, e)
        thing = program(parameters=("x",), result=e)
        self.assertEqual(asked(thing, "run 9999999999999 /"), ["done " + str((10 ** 13 - 1) ** 64)])
        for _ in range(3):
            e = ("mul", e, e)
        n = int("9" * 13) ** 512
        high, low = divmod(n, 10 ** 4000)
        self.assertEqual(asked(program(parameters=("x",), result=e), "run 9999999999999 /"),
                         ["done " + str(high) + str(low).zfill(4000)])

    def test_undo(self):
        self.assertEqual(asked(TINY, "undo", "begin 1 4", "begin 2 2", "result", "undo", "result", "undo", "undo", "verdicts"), [
            "no", "done", "done", "4", "yes", "2..8", "yes", "no", "0 0 division maybe"])
        self.assertEqual(asked(TINY, "begin ? ?", "undo", "undo"), ["done", "yes", "no"])

    def test_runs_are_not_bound_to_begin(self):
        self.assertEqual(asked(TINY, "begin 1 4", "run -2 /"), ["done", "done -4"])


ZERO_LESS = ("less", ZERO, X)


class Lines(unittest.TestCase):
    def bad(self, error, line, *texts):
        for text in texts:
            with self.assertRaises(error, msg=repr(text)) as caught:
                answers(text)
            self.assertEqual(caught.exception.line, line, repr(text))

    def test_no_request_at_all(self):
        self.assertEqual(answers(program_text(TINY)), [])
        self.assertEqual(answers(program_text(TINY) + "\n"), [])
        self.assertEqual(answers(text=program_text(TINY) + "\n"), [])

    def test_empty_requests(self):
        three = program_text(TINY)
        self.bad(BadLine, 4, three + "\n\n", three + "\n\n\n", three + "\n\n\nverdicts")
        self.bad(BadLine, 5, three + "\n\nverdicts\n", three + "\n\nverdicts\n\nverdicts", three + "\n\nverdicts\n\n")

    def test_requests_that_are_written_otherwise(self):
        for line in [
            " ", "?", "verdict", "Verdicts", "verdicts ", " verdicts", "verdicts 1", "result 1", "result ", "undo 1", "undo undo",
            "program", "table", "state", "state 0", "state 0 0 0", "state 0 ?", "state a b", "state 0  0", "state 0 0 ",
            "state 00 0", "state 0 -0", "state 0 " + "1" * 14, "begin ", "begin 1 ", "begin  1 2", "begin a b", "begin 1 n",
            "begin 1 ??", "begin 01 2", "begin -0 1", "begin 1 " + "9" * 14, "begin 1 2\r", "begin,1,2", "begin 1.5 2", "begin / ",
            "run", "run ", "run 3", "run 3/", "run 3 / ", "run  3 /", "run /  3", "run / ", "run 3 / /", "run / 3 /", "run / /",
            "run ? /", "run 3 / ?", "run x /", "run 3 / x", "run 03 /", "run " + "9" * 14 + " /", "run / " + "9" * 14, "run 1 \\ 2",
            "/", "run / 1\t2", "done", "refused", "begin\t1\t2", "# verdicts",
            "runs 3 /", "ru 3 /", "Run 3 /", "states 0 0", "begins 1 4", "/ 3", "3 /",
        ]:
            self.bad(BadLine, 4, program_text(TINY) + "\n\n" + line, program_text(TINY) + "\n\n" + line + "\n",
                     program_text(TINY) + "\n\n" + line + "\nverdicts\nno")
            self.bad(BadLine, 6, program_text(TINY) + "\n\nverdicts\nbegin 3\n" + line)

    def test_all_lines_are_counted(self):
        self.bad(BadLine, 3, program_text(BARE) + "\n\nno")
        self.bad(BadLine, 8, program_text(LOOP) + "\n\nresult\nresult\nno\nno")
        self.bad(BadLine, 7, program_text(LOOP) + "\n\nresult\n\nno")

    def test_bad_text_ahead_of_bad_line(self):
        self.bad(BadText, 0, "", "\n", "\nverdicts", "\n\n", "no", "no\n\nno", "\nfunction main\nreturn 0")
        self.bad(BadText, 1, "function main\n\nverdicts", "function main\n\nno", "function main", "function main\nno\n\nno",
                 "function main\ncall x f\nreturn 0\n\nno", "function main\n")
        self.bad(BadText, 2, "function main\nset x 1\n\nreturn 0", "function main\nset x 1\n\n\n")
        self.bad(BadText, 3, program_text(TINY) + "\nverdicts", program_text(TINY) + "\n \nverdicts")

    def test_the_first_empty_line(self):
        self.assertEqual(answers("function main\nreturn 0\n\nresult\nresult"), ["0", "0"])
        self.bad(BadLine, 4, "function main\nreturn 0\n\nresult\nfunction f\nreturn 0")


class BesideASession(unittest.TestCase):
    def test_by_the_words(self):
        chance = random.Random(1)

        def bound():
            return chance.choice([None, chance.randint(-9, 9), chance.randint(-9, 9)])

        for thing in likely(40):
            begins = [tuple(EVERY for _ in thing[0][1])]
            requests, expected = [], []
            for _ in range(12):
                table = analyse(thing, begins[-1])
                kind = chance.choice(["begin", "begin", "state", "state", "verdicts", "result", "run", "undo"])
                if kind == "begin":
                    pairs = [(bound(), bound()) for _ in thing[0][1]]
                    words = " ".join("?" if n is None else str(n) for pair in pairs for n in pair)
                    fine = all(None in pair or pair[0] <= pair[1] for pair in pairs)
                    if fine:
                        begins.append(tuple(value_of(low, high, 1, 0) for low, high in pairs))
                    requests.append(f"begin {words}")
                    expected.append("done" if fine else "refused")
                elif kind == "state":
                    f, k = chance.randint(-1, len(thing)), chance.randint(-1, 30)
                    requests.append(f"state {f} {k}")
                    if 0 <= f < len(thing) and 0 <= k < points_many(thing[f]):
                        state = table[f][k]
                        expected.append("unreached" if state is None else ", ".join(map(value_text, state[0])))
                    else:
                        expected.append("refused")
                elif kind == "verdicts":
                    requests.append(kind)
                    rows = [f"{f} {k} {risk} {word}" for (f, k), risk, word in verdicts(thing, table)]
                    expected.append(", ".join(rows) or "none")
                elif kind == "result":
                    requests.append(kind)
                    value = result_of(thing, table)
                    expected.append("unreached" if value is None else value_text(value))
                elif kind == "run":
                    numbers, inputs = [chance.randint(-9, 9) for _ in thing[0][1]], [chance.randint(-4, 7) for _ in range(9)]
                    requests.append("run " + " ".join(map(str, numbers + ["/"] + inputs)))
                    end = run(thing, numbers, inputs, 500)[0]
                    expected.append(" ".join(map(str, end[:2] if end[0] in ("done", "fault") else end[:1])))
                else:
                    requests.append(kind)
                    expected.append("yes" if len(begins) > 1 else "no")
                    begins = begins[:-1] or begins
            self.assertEqual(asked(thing, *requests), expected, requests)

    def test_new_lists(self):
        text = program_text(TINY) + "\n\nundo"
        answers(text).clear()
        self.assertEqual(answers(text), ["no"])


if __name__ == "__main__":
    unittest.main()
