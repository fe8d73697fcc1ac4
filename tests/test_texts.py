"""texts.py ([22])."""

import copy
import random
import unittest

from shadowruns.errors import BadText
from shadowruns.limits import GREATEST
from shadowruns.programs import is_program
from shadowruns.splits import unrolled
from shadowruns.texts import program_in, program_text, value_text
from shadowruns.values import EVERY, single, value_of
from tests.samples import ATOM, LOOP, ONE, TINY, TWO, X, Y, ZERO, as_lists, body, has_list, likely, made, program
from tests.tables import SPECIAL, num

A0 = ("item", "a", ZERO)
LETTERS = "abcdefghijklmnopqrstuvwxyz"


def written_by_the_words(part):
    """An expression or a condition."""
    signs = {"add": "+", "sub": "-", "mul": "*", "div": "/", "mod": "~", "less": "<", "equal": "=", "not": "!",
             "and": "&", "or": "|"}
    if part[0] in ("num", "var"):
        return str(part[1])
    if part[0] == "item":
        return "@ " + part[1] + " " + written_by_the_words(part[2])
    return " ".join([signs[part[0]]] + [written_by_the_words(inner) for inner in part[1:]])


def lines_by_the_words(block):
    found = []
    for s in block:
        if s[0] == "if":
            found += ["if " + written_by_the_words(s[1])] + lines_by_the_words(s[2])
            found += (["else"] + lines_by_the_words(s[3]) if s[3] else []) + ["end"]
        elif s[0] == "while":
            found += ["while " + written_by_the_words(s[1])] + lines_by_the_words(s[2]) + ["end"]
        elif s[0] == "input":
            found.append(" ".join([s[0], s[1]] + ["?" if n is None else str(n) for n in s[2:]]))
        elif s[0] == "call":
            found.append(" ".join(["call", s[1], s[2]] + [written_by_the_words(e) for e in s[3]]))
        elif s[0] in ("check", "assume"):
            found.append(s[0] + " " + written_by_the_words(s[1]))
        else:
            found.append(" ".join([s[0], s[1]] + [written_by_the_words(e) for e in s[2:]]))
    return found


def text_by_the_words(thing):
    found = []
    for name, parameters, arrays, block, result in thing:
        found.append(" ".join(["function", name, *parameters]))
        found += [f"array {array} {length}" for array, length in arrays]
        found += lines_by_the_words(block) + ["return " + written_by_the_words(result)]
    return "\n".join(found)


def text(*lines):
    """The text of a main function with a parameter n and an array a of 3."""
    return "\n".join(("function main n", "array a 3") + lines + ("return 0",))


class Examples(unittest.TestCase):
    def test_of_the_document(self):
        self.assertEqual(program_text(TINY), "function main n\nset x / 8 n\nreturn x")
        with self.assertRaises(BadText) as caught:
            program_in("function main n\nset x / 8 n n\nreturn x")
        self.assertEqual(caught.exception.line, 1)
        self.assertEqual(value_text((3, 11, 4, 3)), "3..11 4:3")


class Written(unittest.TestCase):
    def both_ways(self, thing, expected):
        self.assertIs(is_program(thing), True)
        self.assertEqual(program_text(thing), expected)
        self.assertEqual(program_text(as_lists(thing)), expected)
        self.assertEqual(program_in(expected), thing)

    def test_each_expression(self):
        for e, expected in [
            (num(0), "0"), (num(7), "7"), (num(-7), "-7"), (num(10 ** 12), "1000000000000"), (X, "x"),
            (("var", "abcdefgh"), "abcdefgh"), (("add", X, ONE), "+ x 1"), (("sub", X, num(-1)), "- x -1"),
            (("mul", ONE, X), "* 1 x"), (("div", X, Y), "/ x y"), (("mod", X, Y), "~ x y"), (A0, "@ a 0"),
            (("item", "a", ("item", "a", ("add", X, A0))), "@ a @ a + x @ a 0"),
            (("add", ("sub", ("mul", X, ONE), A0), ("mod", ("div", X, Y), num(-2))), "+ - * x 1 @ a 0 ~ / x y -2"),
        ]:
            self.both_ways(program(arrays=(("a", 3),), result=e), f"function main\narray a 3\nreturn {expected}")
            self.both_ways(program(("set", "z", e), arrays=(("a", 3),)),
                           f"function main\narray a 3\nset z {expected}\nreturn 0")

    def test_each_condition(self):
        for c, expected in [
            (("less", X, Y), "< x y"), (("equal", ("add", X, ONE), num(-3)), "= + x 1 -3"), (("not", ATOM), "! < x y"),
            (("and", ATOM, ("not", ATOM)), "& < x y ! < x y"), (("or", ("and", ATOM, ATOM), ATOM), "| & < x y < x y < x y"),
            (("not", ("not", ("or", ATOM, ("equal", X, X)))), "! ! | < x y = x x"),
        ]:
            for sign in ("check", "assume"):
                self.both_ways(program((sign, c)), f"function main\n{sign} {expected}\nreturn 0")
            for sign in ("if", "while"):
                statement = (sign, c, ()) + (((),) if sign == "if" else ())
                self.both_ways(program(statement), f"function main\n{sign} {expected}\nend\nreturn 0")

    def test_each_statement(self):
        for s, expected in [
            (("set", "x", Y), "set x y"), (("put", "a", X, A0), "put a x @ a 0"), (("input", "x", None, None), "input x ? ?"),
            (("input", "x", -3, None), "input x -3 ?"), (("input", "x", None, 0), "input x ? 0"),
            (("input", "x", 5, 5), "input x 5 5"), (("call", "x", "f", (("add", X, ONE), A0)), "call x f + x 1 @ a 0"),
            (("call", "x", "g", ()), "call x g"), (("check", ATOM), "check < x y"), (("assume", ATOM), "assume < x y"),
        ]:
            others = (body(name="f", parameters=("n", "m")), body(name="g"))
            self.both_ways(program(s, arrays=(("a", 3),), others=others), "\n".join([
                "function main", "array a 3", expected, "return 0", "function f n m", "return 0", "function g", "return 0"]))

    def test_if_and_while(self):
        s, t = ("set", "x", ONE), ("set", "y", ONE)
        for one, other, expected in [
            ((), (), "if < x y\nend"), ((s,), (), "if < x y\nset x 1\nend"),
            ((), (s,), "if < x y\nelse\nset x 1\nend"), ((s, t), (t, s), "if < x y\nset x 1\nset y 1\nelse\nset y 1\nset x 1\nend"),
            ((("if", ATOM, (), (s,)),), (("while", ATOM, ()),),
             "if < x y\nif < x y\nelse\nset x 1\nend\nelse\nwhile < x y\nend\nend"),
        ]:
            self.both_ways(program(("if", ATOM, one, other), s), f"function main\n{expected}\nset x 1\nreturn 0")
        self.both_ways(program(("while", ATOM, (s, ("while", ATOM, (("if", ATOM, (t,), ()),)), t))), "\n".join([
            "function main", "while < x y", "set x 1", "while < x y", "if < x y", "set y 1", "end", "end", "set y 1", "end",
            "return 0"]))

    def test_functions(self):
        self.both_ways((body(),), "function main\nreturn 0")
        thing = (body(parameters=("x", "y"), arrays=(("a", 1), ("b", 12))), body(name="f", result=("var", "main")))
        self.both_ways(thing, "function main x y\narray a 1\narray b 12\nreturn 0\nfunction f\nreturn main")
        self.both_ways((body(arrays=(("main", 2),), result=("item", "main", ZERO)),),
                       "function main\narray main 2\nreturn @ main 0")
        thing = (body(parameters=("x", "main"), result=("var", "main")), body(name="f", parameters=("f",), result=("var", "x")))
        self.both_ways(thing, "function main x main\nreturn main\nfunction f f\nreturn x")
        # the same names in another function
        thing = (body(("set", "a", ONE)), body(name="f", arrays=(("a", 3),), result=A0))
        self.both_ways(thing, "function main\nset a 1\nreturn 0\nfunction f\narray a 3\nreturn @ a 0")

    def test_calls_of_later_functions_and_of_itself(self):
        thing = (body(("call", "x", "f", (X,)), ("call", "x", "main", ())),
                 body(("call", "x", "f", (X,)), name="f", parameters=("x",)))
        self.both_ways(thing, "function main\ncall x f x\ncall x main\nreturn 0\nfunction f x\ncall x f x\nreturn 0")

    def test_all_programs(self):
        for thing in [TINY, LOOP, TWO] + SPECIAL + made(150) + likely(100):
            self.both_ways(thing, text_by_the_words(thing))
            self.both_ways(unrolled(thing, 1)[0], text_by_the_words(unrolled(thing, 1)[0]))

    def test_integers_of_any_size_are_written(self):
        for n in (10 ** 13, -10 ** 40, 10 ** 5000, 12345 * 10 ** 6000 + 7):
            found = program_text(program(result=num(n)))
            self.assertTrue(found.startswith("function main\nreturn "))
            word = found.split(" ")[-1]
            self.assertEqual(len(word.lstrip("-")), len_of(abs(n)))
            self.assertEqual(word[:3], "-10" if n < 0 else "123" if n % 10 else "100")

    def test_deep_lines(self):
        for many in (100, 5000):
            found = program_in("function main\ncheck " + "! " * many + "< 1 2\nreturn 0")[0][3][0][1]
            for _ in range(many):
                self.assertEqual(found[0], "not")
                found = found[1]
            self.assertEqual(found, ("less", ONE, num(2)))
        lines = ["function main"] + ["while < x 1"] * 98 + ["end"] * 98 + ["return 0"]
        self.assertEqual(program_text(program_in("\n".join(lines))), "\n".join(lines))


def len_of(n):
    """How many digits n has."""
    many = 0
    while n:
        n //= 10
        many += 1
    return many


class Read(unittest.TestCase):
    def bad(self, line, *texts):
        for one in texts:
            with self.assertRaises(BadText, msg=repr(one)) as caught:
                program_in(one)
            self.assertEqual(caught.exception.line, line, repr(one))

    def bad_line(self, *lines):
        """Each line by itself in a program cannot stand there."""
        for line in lines:
            self.bad(2, text(line), text(line, "set x", "again"), text(line) + "\n")

    def good_line(self, *lines):
        for line in lines:
            self.assertIs(is_program(program_in(text(line))), True)

    def test_integers(self):
        for word, n in [("0", 0), ("9", 9), ("-9", -9), ("10", 10), ("1000000000000", 10 ** 12), ("9" * 13, 10 ** 13 - 1),
                        ("-" + "9" * 13, 1 - 10 ** 13)]:
            self.assertEqual(program_in(f"function main\nreturn {word}"), program(result=num(n)))
        for word in ["-0", "00", "01", "-01", "9" * 14, "1" + "0" * 13, "-1" + "0" * 13, "0" * 14, "+1", "--1", "1.0", "1_0",
                     "0x1", "1e3", "-", "", "1a", "a1", "\u0661", "\u00b2", "1 ", " 1", "1\t", "\n", "-a", "1-", "?"]:
            self.bad(1, f"function main\nreturn {word}")
            self.bad_line(f"input x {word} ?" if word != "?" else "input x ??", f"input x -99999 {word}".replace("?", "??"))

    def test_words(self):
        self.good_line("set x + n 1", "call x main n", "set abcdefgh 1")
        self.bad_line("set  x + n 1", "set x  + n 1", "set x + n  1", " set x 1", "set x 1 ", "set x 1\t", "set\tx 1", "set x +n 1",
                      "Set x 1", "SET x 1", "set X 1", "set x1 1", "set abcdefghi 1", "set x_ 1", "set \u00e9 1", "set x 1\r",
                      "set x 1\x0b", "set x 1\x0c", "set x 1\u2028", "", " ", "#", "sett x 1", "se x 1")
        for word in ("function", "array", "set", "put", "input", "if", "else", "while", "call", "check", "assume", "end",
                     "return"):
            self.bad_line(f"set {word} 1", f"set x {word}", f"set x + n {word}", f"call x {word}", f"call {word} main 1",
                          f"input {word} ? ?", f"put {word} 0 1", f"set x @ {word} 0")
            self.bad(0, f"function {word}\nreturn 0", f"function main {word}\nreturn 0", f"function main a {word} b\nreturn 0")
            self.bad(1, f"function main\narray {word} 3\nreturn 0")

    def test_statements_with_too_few_or_too_many_words(self):
        self.bad_line("set", "set x", "set x 1 1", "set 1 1", "set x + 1", "set x + 1 1 1", "set x < 1 2", "set x ! 1", "set x +",
                      "put", "put a", "put a 0", "put a 0 1 2", "put a < 0 1 2", "put a 0 < 1 2", "put 0 1 2", "put a + 0 1",
                      "input", "input x", "input x 1", "input x 1 2 3", "input x n 3", "input x 1 n", "input x + 1", "input 1 1 2",
                      "call", "call x", "call x 1", "call 1 main 1", "call x main < 1 2", "call x main + 1", "call x main 1 <",
                      "check", "check 1", "check n", "check < 1", "check < 1 2 3", "check ! 1", "check & 1 2", "check & < 1 2",
                      "check & < 1 2 3", "check | < 1 2 n", "check < < 1 2 3", "check = ! < 1 2 3", "check < 1 2 < 1 2",
                      "assume", "assume 1", "assume < 1 2 !", "if", "if 1", "if < 1", "if < 1 2 3", "while", "while n",
                      "while ! ! < 1", "else", "end", "end 1", "else 1", "return", "return < 1 2", "return 1 2", "return +")
        self.bad_line("set x @ n 0", "set x @ 5 0", "set x @ a", "set x @ a < 1 2", "set x @ + 1 2 0", "set x @ @ a 0 0", "set x @")

    def test_lines_at_the_wrong_places(self):
        self.bad(0, "set x 1", "return 0", "array a 3\nfunction main\nreturn 0", "end", "functio main", " function main",
                 "function", "function 1", "function main 1", "function main  n", "function main ", "program", "if < 1 2")
        self.bad_line("function f", "function main")
        self.bad(3, text("set x 1", "array b 3"), text("if < n 1", "array b 3", "end"), text("while < n 1", "array b 3", "end"),
                 text("if < n 1", "return 0", "end"), text("while < n 1", "return 0"), text("if < n 1", "function f"),
                 text("while < n 1", "else", "end"), text("while < n 1", "end 1"), text("if < n 1", "else 1"),
                 text("if < n 1", "end 1"))
        self.bad(4, text("if < n 1", "end", "end"), text("if < n 1", "else", "end"), text("if < n 1", "else", "else"),
                 text("if < n 1", "end", "else"), text("while < n 1", "end", "end"), text("if < n 1", "end", "array b 3"))
        self.bad(5, text("if < n 1", "else", "set x 1", "else", "end"), text("if < n 1", "set x 1", "else", "end"),
                 text("if < n 1", "while < n 1", "end", "array b 3"))
        self.bad(3, text() + "\nset x 1", text() + "\nreturn 0", text() + "\nend", text() + "\nelse", text() + "\narray b 2")

    def test_empty_lines(self):
        self.bad(0, "", "\n", "\nfunction main\nreturn 0", " ", "\n\n")
        self.bad(1, "function main\n\nreturn 0", "function main\n")
        self.bad(2, "function main\nreturn 0\n", "function main\nreturn 0\n\n", "function main\nreturn 0\n\nfunction f\nreturn 0")

    def test_blanks_and_other_line_ends(self):
        self.bad(0, "function main\r\nreturn 0", "function main \nreturn 0", " function main\nreturn 0", "function main\rreturn 0")
        self.bad(1, "function main\nreturn 0 ", "function main\nreturn 0\r", "function main\n return 0", "function main\nreturn  0")

    def test_names_that_are_a_variable_and_an_array(self):
        self.bad(1, "function main a\narray a 3\nreturn 0", "function main n a\narray a 3\nset x a n\nreturn 0")
        self.bad(2, "function main\narray a 3\narray a 3\nreturn 0", "function main\narray a 3\narray a 4\nreturn 0",
                 "function main\narray b 3\nset b 1\nreturn 0")
        self.bad_line("set a 1", "set x a", "set x + a 1", "set x + 1 a", "set x @ a a", "put a a 1", "put a 1 a",
                      "input a ? ?", "call a main 1", "call x main a", "check < a 1", "assume = 1 a", "if < a 1",
                      "while ! < 1 a", "return a", "put a 0 @ a a", "check | < 1 2 & < 2 3 = a a")
        self.bad(3, text("set x 1", "set a 1"), text("if < n 1", "set x @ a a", "end"))

    def test_arrays_that_are_not_there(self):
        self.bad_line("put b 0 1", "set x @ b 0", "put a 0 @ b 0", "put a @ b 0 1", "set x + 1 @ b 0", "check < 1 @ b 0", "put n 0 1",
                      "set x @ n 0", "if = @ b 1 1", "while < @ main 0 1", "call x main @ b 0", "return @ b 0")
        self.bad(1, "function main\nset x @ a 0\nreturn 0", "function main\nput a 0 1\nreturn 0", "function main\nreturn @ a 0")
        # an array of another function
        self.bad(4, text() + "\nfunction f\nreturn @ a 0")

    def test_a_second_function_of_one_name(self):
        self.bad(3, text() + "\nfunction main\nreturn 0", text() + "\nfunction main n\narray a 3\nreturn 0")
        self.bad(5, text() + "\nfunction f\nreturn 0\nfunction f\nreturn 0", text() + "\nfunction f\nreturn 0\nfunction main\n??")

    def test_what_no_function_has(self):
        self.bad(0, "function main n n\nreturn 0", "function main n m n\nreturn 0", "function main a b c c\nreturn x y")
        self.bad(1, "function main\narray a 0\nreturn 0", "function main\narray a -1\nreturn 0", "function main\narray a\nreturn 0",
                 "function main\narray a 1 2\nreturn 0", "function main\narray 1 a\nreturn 0", "function main\narray a ?\nreturn 0",
                 "function main\narray a n\nreturn 0", "function main\narray a + 1 2\nreturn 0", "function main\narray\nreturn 0",
                 "function main\narray a 01\nreturn 0", "function main\narray a " + "9" * 14 + "\nreturn 0")
        self.bad_line("input x 1 0", "input x 0 -1", "input x -1 -2", "input x 10 9")
        self.good_line("input x 0 0", "input x -2 -1", "input x ? -5", "input x 5 ?")

    def test_texts_that_end_too_early(self):
        self.bad(1, "function main", "function main n m")
        self.bad(2, "function main\narray a 3", "function main\nset x 1", "function main\nif < 1 2", "function main\ncall x g")
        self.bad(3, "function main\nif < 1 2\nelse", "function main\nwhile < 1 2\nend", "function main\nreturn 0\nfunction f")
        self.bad(4, "function main\nif < 1 2\nelse\nset x 1", "function main\ncall x main 1\nif < 1 2\nend",
                 "function main\nreturn 0\nfunction f n\narray b 3")

    def test_calls_that_fit_nothing(self):
        self.bad(1, "function main\ncall x f\nreturn 0", "function main\ncall x main 1\nreturn 0",
                 "function main\ncall x f 1\nreturn 0\nfunction f\nreturn 0",
                 "function main\ncall x f\nreturn 0\nfunction f n\nreturn 0",
                 "function main\ncall x f 1 2\ncall x g\nreturn 0\nfunction f n\nreturn 0")
        self.bad(2, "function main\ncall x f 1\ncall x f\ncall x g\nreturn 0\nfunction f n\nreturn 0",
                 "function main\nif < 1 2\ncall x g\nend\nreturn 0")
        self.bad(4, "function main\ncall x f + 1 2\nreturn 0\nfunction f n\ncall x f n n\nreturn 0",
                 "function main\nwhile < 1 2\nif < 1 2\nend\ncall x main 0\nend\nreturn 0")

    def test_which_comes_first(self):
        # a line that cannot stand there, then the end, then a call
        self.bad(3, "function main\ncall x g\nset x 1\nset x 1 1", "function main\ncall x g\nset x 1\n", "function main\ncall x g\nset x 1\nend")
        self.bad(2, "function main\ncall x g")
        self.bad(1, "function main n\ncall x g\nreturn 0", "function main\nset x\nset y\nend\n")
        self.bad(0, "function main n n\narray a 0\nset a a\ncall x g", "\nfunction main")
        self.bad(2, text("set a 1", "set x @ b 0"), text("input x 3 2", "end"))

    def test_wrong_lines_by_chance(self):
        chance = random.Random(8)
        words = ["set", "x", "n", "a", "1", "-3", "+", "@", "<", "!", "&", "if", "end", "else", "?", "", "call", "main", "return"]
        good = 0
        things = likely(5)
        for _ in range(1500):
            lines = text_by_the_words(chance.choice(things)).split("\n")
            at = chance.randrange(len(lines))
            row = lines[at].split(" ")
            kind = chance.random()
            if kind < 0.3:
                del row[chance.randrange(len(row))]
            elif kind < 0.6:
                row.insert(chance.randint(0, len(row)), chance.choice(words))
            elif kind < 0.8:
                row[chance.randrange(len(row))] = chance.choice(words)
            lines[at] = " ".join(row)
            if kind >= 0.8:
                del lines[at]
            try:
                found = program_in("\n".join(lines))
            except BadText as bad:
                self.assertTrue(0 <= bad.line <= len(lines))
                # what stands ahead of the line is not to blame, unless it is whole and has calls that fit nothing
                try:
                    program_in("\n".join(lines[:bad.line]))
                except BadText as other:
                    self.assertTrue(other.line == bad.line or lines[other.line].startswith("call "))
            else:
                good += 1
                self.assertIs(is_program(found), True)
                self.assertEqual(program_text(found), "\n".join(lines))
        self.assertGreater(good, 100)

    def test_kinds_of_values(self):
        found = program_in("function main n\narray a 3\nif < n 1\nput a 0 @ a n\nelse\ncall x main 1\nend\nreturn 0")
        self.assertIs(is_program(found), True)
        self.assertFalse(has_list(found))
        self.assertEqual(found, program_in(text="function main n\narray a 3\nif < n 1\nput a 0 @ a n\nelse\ncall x main 1\nend\nreturn 0"))


class ValueText(unittest.TestCase):
    def test_values(self):
        for value, expected in [
            (single(0), "0"), (single(-5), "-5"), (single(GREATEST), "1" + "0" * 30), (EVERY, "?..?"), ((0, None, 1, 0), "0..?"),
            ((None, -3, 1, 0), "?..-3"), ((-2, 7, 1, 0), "-2..7"), ((None, None, 4, 3), "?..? 4:3"), ((2, None, 2, 0), "2..? 2:0"),
            ((None, 9, 10, 9), "?..9 10:9"), ((-7, 5, 12, 5), "-7..5 12:5"), ((-GREATEST, GREATEST, 1, 0),
                                                                            "-1" + "0" * 30 + "..1" + "0" * 30),
            ((0, 1, 1, 0), "0..1"),
        ]:
            self.assertEqual(value_text(value), expected)
            self.assertEqual(value_text(list(value)), expected)
            self.assertEqual(value_text(value=value), expected)

    def test_huge_integers(self):
        n = 10 ** 5000
        self.assertEqual(value_text(single(n)), "1" + "0" * 5000)
        self.assertEqual(value_text(single(-n)), "-1" + "0" * 5000)
        self.assertEqual(value_text(single(n - 1)), "9" * 5000)
        self.assertEqual(value_text(value_of(-n - 1, n + 1, 1, 0)), "-1" + "0" * 4999 + "1..1" + "0" * 4999 + "1")
        self.assertEqual(value_text((None, None, n, 7)), "?..? 1" + "0" * 5000 + ":7")
        for many in (63, 64, 65, 127, 128, 129, 192):
            for k in (-1, 0, 1, 10 ** (many // 2)):
                self.assertEqual(value_text(single(10 ** many + k)), str(10 ** many + k))


class Arguments(unittest.TestCase):
    def test_lists_names_and_unchanged_arguments(self):
        for thing in likely(20):
            lists = as_lists(thing)
            kept = copy.deepcopy(lists)
            self.assertEqual(program_text(program=lists), program_text(thing))
            self.assertEqual(lists, kept)


if __name__ == "__main__":
    unittest.main()
