"""classes.py: namings and sorts ([19])."""

import copy
import random
import unittest

from shadowruns.classes import class_of, classes, classes_meeting, is_naming, sort_apply, value_of_sort
from shadowruns.values import EVERY, contains, single, value_apply, value_join, value_of
from tests.drawing import Drawing
from tests.namings import MIXED, NAMINGS, ONE_CLASS, PARITY, SIGNS, TENS, WINDOW, drawn_naming, drawn_sort, members
from tests.samples import as_lists

OPERATIONS = ["add", "sub", "mul", "div", "mod"]


def operate(sign, a, b):
    if sign in ("div", "mod"):
        return None if b == 0 else (a // b if sign == "div" else a % b)
    return {"add": a + b, "sub": a - b, "mul": a * b}[sign]


def cells_by_the_words(naming, sort):
    """All pairs of a stretch with a remainder in a sort, as values."""
    cuts, m, names = naming
    found = []
    for s, row in enumerate(names):
        low = cuts[s - 1] if s > 0 else None
        high = cuts[s] - 1 if s < len(cuts) else None
        found += [value_of(low, high, m, r) for r, name in enumerate(row) if name is not None and name in sort]
    return found


def apply_by_the_words(naming, sign, one, other):
    found = set()
    for left in cells_by_the_words(naming, one):
        for right in cells_by_the_words(naming, other):
            value = value_apply(sign, left, right)
            if value is not None:
                found |= set(classes_meeting(naming, value))
    return tuple(sorted(found))


def drawn(seed, many):
    chance = random.Random(seed)
    return [(chance, naming) for naming in NAMINGS + [drawn_naming(chance) for _ in range(many)]]


class Examples(unittest.TestCase):
    def test_of_the_document(self):
        self.assertEqual(sort_apply(SIGNS, "add", ("neg",), ("pos",)), ("neg", "pos", "zero"))
        self.assertEqual(sort_apply(SIGNS, "mul", ("neg",), ("neg", "zero")), ("pos", "zero"))


class IsNaming(unittest.TestCase):
    def yes(self, *things):
        for thing in things:
            self.assertIs(is_naming(thing), True, thing)

    def no(self, *things):
        for thing in things:
            self.assertIs(is_naming(thing), False, thing)

    def test_namings(self):
        self.yes(*[naming for _, naming in drawn(1, 60)])
        self.yes(((5,), 1, (("a",), ("a",))), ((), 1, (("",),)), ((), 3, (("x y", "1", "None"),)))
        self.yes(((10 ** 40,), 2, (("a", "b"), ("c", "d"))), (tuple(range(40)), 1, (("a",),) * 41))

    def test_the_triple(self):
        self.no((), SIGNS[:2], SIGNS + (1,), list(SIGNS), as_lists(SIGNS), (SIGNS,), SIGNS[::-1], SIGNS[2], None, 0, True,
                "abc", [], [0, 1, 2], {0: (), 1: 1, 2: (("a",),)})

    def test_the_cuts(self):
        one, two, three = (("a",),) * 2, (("a",),) * 3, (("a",),) * 4
        self.yes(((3,), 1, one), ((3, 4), 1, two), ((-4, 3, 4), 1, three))
        self.no(([3], 1, one), ((3.0,), 1, one), (("3",), 1, one), ((True,), 1, one), ((None,), 1, one), (3, 1, one),
                (None, 1, (("a",),)), (((3,),), 1, one), ((3, 3), 1, two), ((4, 3), 1, two), ((3, True), 1, two),
                ((False, 3), 1, two), ((-4, 4, 3), 1, three), ((3, 5, 5), 1, three), ("", 1, (("a",),)), ("a", 1, one),
                ({}, 1, (("a",),)))
        # stretches without any integer
        none = ((None,),)
        self.no(((3, 3), 1, (("a",),) + none + (("a",),)), ((4, 3), 1, (("a",),) + none + (("a",),)),
                ((3, 5, 4), 1, one + none + (("a",),)), ((5, 4, 6), 1, (("a",),) + none + one))

    def test_the_modulus(self):
        self.no(((), 0, (("a",),)), ((), 0, ((),)), ((), -1, (("a",),)), ((), True, (("a",),)), ((), None, (("a",),)),
                ((), "1", (("a",),)), ((), (1,), (("a",),)), ((), [1], (("a",),)), ((), 2, (("a",),)),
                ((), 1, (("a", "b"),)), ((), 10 ** 40, (("a",),)), ((), 3, (("a", "b"),)))

    def test_the_names(self):
        self.no(((), 1, ()), ((), 1, (("a",), ("b",))), ((5,), 1, (("a",),)), ((5,), 1, (("a",),) * 3), ((), 1, [("a",)]),
                ((), 1, (["a"],)), ((), 1, ("a",)), ((), 1, "a"), ((), 1, None), ((), 1, 5), ((), 1, ((5,),)),
                ((), 1, ((True,),)), ((), 1, ((None,),)), ((), 1, ((("a",),),)), ((), 1, ((["a"],),)), ((), 1, ((),)),
                ((), 2, (("a", None),)), ((), 2, ((None, "a"),)), ((), 2, (("ab",),)), ((), 2, ("ab",)), ((), 1, (None,)))

    def test_none_where_there_is_no_integer_and_only_there(self):
        # from 5 to 6: remainders 2 and 0 by 3
        good = ((5, 7), 3, (("a", "a", "a"), ("a", None, "a"), ("a", "a", "a")))
        self.yes(good)
        for s in range(3):
            for r in range(3):
                row = list(good[2][s])
                row[r] = "a" if row[r] is None else None
                self.no(good[:2] + (good[2][:s] + (tuple(row),) + good[2][s + 1:],))
        self.no(good[:2] + (good[2][:1] + (("a", False, "a"),) + good[2][2:],))
        self.no(good[:2] + (good[2][:1] + (("a", 0, "a"),) + good[2][2:],))
        self.yes(((-1, 0), 2, (("a", "b"), (None, "c"), ("a", "b"))), ((-2, 1), 3, (("a",) * 3,) * 3))
        self.no(((-1, 0), 2, (("a", "b"), ("c", None), ("a", "b"))), ((-2, 0), 3, (("a",) * 3,) * 3))

    def test_things_that_are_nested(self):
        for kind in (list, tuple):
            thing = 0
            for _ in range(40):
                thing = kind([thing])
                self.no(thing, (thing, 1, (("a",),)), ((), thing, (("a",),)), ((), 1, thing), ((), 1, (thing,)),
                        ((), 1, ((thing,),)), ((thing,), 1, (("a",), ("a",))))

    def test_by_its_name(self):
        self.assertIs(is_naming(thing=SIGNS), True)


class Classes(unittest.TestCase):
    def test_all_classes(self):
        self.assertEqual(classes(SIGNS), ["neg", "pos", "zero"])
        self.assertEqual(classes(PARITY), ["even", "odd"])
        self.assertEqual(classes(MIXED), ["a", "b", "c", "far", "five", "high", "low", "small", "zero"])
        self.assertEqual(classes(((5,), 1, (("a",), ("a",)))), ["a"])
        self.assertEqual(classes(((5,), 1, (("b",), ("B",)))), ["B", "b"])

    def test_new_lists(self):
        classes(SIGNS).clear()
        self.assertEqual(classes(SIGNS), ["neg", "pos", "zero"])

    def test_class_of(self):
        self.assertEqual([class_of(SIGNS, n) for n in (-10 ** 40, -1, 0, 1, 2, 10 ** 40)],
                         ["neg", "neg", "zero", "pos", "pos", "pos"])
        self.assertEqual([class_of(PARITY, n) for n in (-3, -2, 0, 7)], ["odd", "even", "even", "odd"])
        self.assertEqual([class_of(MIXED, n) for n in (-5, -4, -3, -2, -1, 0, 1, 2, 4, 5, 6, 19, 20, 21)], [
            "low", "far", "a", "b", "a", "zero", "a", "small", "a", "five", "a", "b", "far", "high"])
        for _, naming in drawn(2, 40):
            cuts, m, names = naming
            for n in WINDOW:
                s = sum(1 for cut in cuts if n >= cut)
                self.assertEqual(class_of(naming, n), names[s][n % m])
                self.assertIn(class_of(naming, n), classes(naming))


class Sorts(unittest.TestCase):
    def test_value_of_sort(self):
        self.assertIsNone(value_of_sort(SIGNS, ()))
        self.assertEqual(value_of_sort(SIGNS, ("neg",)), (None, -1, 1, 0))
        self.assertEqual(value_of_sort(SIGNS, ("zero",)), single(0))
        self.assertEqual(value_of_sort(SIGNS, ("pos", "zero")), (0, None, 1, 0))
        self.assertEqual(value_of_sort(SIGNS, ("neg", "pos")), EVERY)
        self.assertEqual(value_of_sort(PARITY, ("odd",)), (None, None, 2, 1))
        self.assertEqual(value_of_sort(MIXED, ("five", "small")), (2, 5, 3, 2))
        self.assertEqual(value_of_sort(MIXED, ("far",)), (None, None, 3, 2))
        self.assertEqual(value_of_sort(MIXED, ("c", "five")), (5, 17, 3, 2))

    def test_value_of_sort_is_the_least(self):
        for chance, naming in drawn(3, 60):
            sort = drawn_sort(chance, naming)
            expected = None
            for cell in cells_by_the_words(naming, sort):
                expected = cell if expected is None else value_join(expected, cell)
            value = value_of_sort(naming, sort)
            self.assertEqual(value, expected)
            for n in members(naming, sort):
                self.assertTrue(contains(value, n))

    def test_classes_meeting(self):
        self.assertEqual(classes_meeting(SIGNS, EVERY), ("neg", "pos", "zero"))
        self.assertEqual(classes_meeting(SIGNS, (1, 5, 4, 1)), ("pos",))
        self.assertEqual(classes_meeting(SIGNS, (-1, 1, 2, 1)), ("neg", "pos"))
        self.assertEqual(classes_meeting(MIXED, (3, 5, 2, 1)), ("b", "five"))
        chance = random.Random(4)
        values = Drawing(chance)
        for naming in NAMINGS + [drawn_naming(chance) for _ in range(40)]:
            for _ in range(10):
                low, high = sorted([chance.randint(-12, 12), chance.randint(-12, 12)])
                m = chance.randint(1, 4)
                value = value_of(low, high, m, chance.randrange(m))
                if value is not None:
                    expected = sorted({class_of(naming, n) for n in range(low, high + 1) if contains(value, n)})
                    self.assertEqual(classes_meeting(naming, value), tuple(expected))
                wide = values.value()
                found = classes_meeting(naming, wide)
                self.assertTrue({class_of(naming, n) for n in WINDOW if contains(wide, n)} <= set(found))
                self.assertEqual(found, tuple(sorted(set(found))))

    def test_sort_apply_of_signs(self):
        table = {
            "add": {"nn": "n", "nz": "n", "np": "nzp", "zz": "z", "zp": "p", "pp": "p"},
            "mul": {"nn": "p", "nz": "z", "np": "n", "zz": "z", "zp": "z", "pp": "p"},
        }
        words = {"n": "neg", "z": "zero", "p": "pos"}
        for sign, rows in table.items():
            for pair, results in rows.items():
                one, other = (words[pair[0]],), (words[pair[1]],)
                expected = tuple(sorted(words[c] for c in results))
                self.assertEqual(sort_apply(SIGNS, sign, one, other), expected)
                self.assertEqual(sort_apply(SIGNS, sign, other, one), expected)
        self.assertEqual(sort_apply(SIGNS, "div", ("neg",), ("pos",)), ("neg",))
        self.assertEqual(sort_apply(SIGNS, "div", ("pos",), ("pos",)), ("pos", "zero"))
        self.assertEqual(sort_apply(SIGNS, "div", ("zero",), ("neg", "zero")), ("zero",))
        self.assertEqual(sort_apply(SIGNS, "mod", ("pos",), ("neg",)), ("neg", "zero"))
        self.assertEqual(sort_apply(SIGNS, "sub", ("pos",), ("pos",)), ("neg", "pos", "zero"))

    def test_sort_apply_without_results(self):
        for sign in OPERATIONS:
            for one, other in [((), ()), ((), ("pos",)), (("pos",), ())]:
                self.assertEqual(sort_apply(SIGNS, sign, one, other), ())
        for sign in ("div", "mod"):
            for sort in [("neg",), ("zero",), ("neg", "pos", "zero"), ()]:
                self.assertEqual(sort_apply(SIGNS, sign, sort, ("zero",)), ())
            self.assertNotEqual(sort_apply(ONE_CLASS, sign, ("all",), ("all",)), ())

    def test_sort_apply_beside_the_results_of_windows(self):
        for chance, naming in drawn(5, 10):
            for sign in OPERATIONS:
                one, other = drawn_sort(chance, naming), drawn_sort(chance, naming)
                results = [operate(sign, a, b) for a in members(naming, one) for b in members(naming, other)]
                expected = {class_of(naming, n) for n in results if n is not None}
                found = sort_apply(naming, sign, one, other)
                if sign in ("add", "sub"):
                    self.assertEqual(set(found), expected, (naming, sign, one, other))
                self.assertTrue(expected <= set(found), (naming, sign, one, other))
                self.assertEqual(found, apply_by_the_words(naming, sign, one, other))

    def test_sort_apply_of_each_pair_of_classes(self):
        for naming in (MIXED, TENS, SIGNS, PARITY):
            for sign in OPERATIONS:
                for one in classes(naming):
                    for other in classes(naming):
                        self.assertEqual(sort_apply(naming, sign, (one,), (other,)),
                                         apply_by_the_words(naming, sign, (one,), (other,)))

    def test_many_classes(self):
        cuts = (-60, -20, 0, 1, 30, 90)
        naming = (cuts, 6, tuple(
            tuple(f"s{s}r{r}" if s != 3 or r == 0 else None for r in range(6)) for s in range(7)))
        self.assertIs(is_naming(naming), True)
        every = tuple(classes(naming))
        self.assertEqual(len(every), 37)
        for sign in ("add", "sub", "mul"):
            self.assertEqual(sort_apply(naming, sign, every, every), every)


class Arguments(unittest.TestCase):
    def test_lists_names_and_unchanged_arguments(self):
        for chance, naming in drawn(6, 20):
            one, other = drawn_sort(chance, naming), drawn_sort(chance, naming)
            rows, left, right, value = as_lists(naming), list(one), list(other), [-3, 9, 1, 0]
            kept = copy.deepcopy((rows, left, right, value))
            self.assertEqual(classes(naming=rows), classes(naming))
            self.assertEqual(class_of(n=5, naming=rows), class_of(naming, 5))
            self.assertEqual(value_of_sort(sort=left, naming=rows), value_of_sort(naming, one))
            self.assertEqual(classes_meeting(value=value, naming=rows), classes_meeting(naming, tuple(value)))
            for sign in OPERATIONS:
                found = sort_apply(other=right, one=left, sign=sign, naming=rows)
                self.assertEqual(found, sort_apply(naming, sign, one, other))
                self.assertIs(type(found), tuple)
            self.assertEqual((rows, left, right, value), kept)

    def test_kinds_of_values(self):
        self.assertIs(type(classes(SIGNS)), list)
        self.assertIs(type(classes_meeting(SIGNS, EVERY)), tuple)
        self.assertIs(type(value_of_sort(SIGNS, ["pos"])), tuple)


if __name__ == "__main__":
    unittest.main()
