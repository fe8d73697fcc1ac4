"""The errors ([24]) and GREATEST ([7])."""

import unittest

from shadowruns import errors, limits

ROWS = [
    ("BadText", ValueError, "line", 3),
    ("BadLine", ValueError, "line", 0),
    ("NoProgram", ValueError, None, None),
    ("Unsafe", ValueError, "condition", ("less", ("item", "a", ("num", 0)), ("var", "x"))),
    ("Taken", ValueError, "name", "main"),
    ("NoFunction", LookupError, "name", "f"),
    ("NoRisk", LookupError, "point", (0, 2)),
    ("TooMany", OverflowError, "many", 2),
]


class Errors(unittest.TestCase):
    def test_each_stands_directly_under_its_base(self):
        for name, base, _, _ in ROWS:
            with self.subTest(name):
                self.assertEqual(getattr(errors, name).__bases__, (base,))

    def test_each_is_defined_in_the_file_itself(self):
        for name, _, _, _ in ROWS:
            self.assertEqual(getattr(errors, name).__module__, "shadowruns.errors")

    def test_each_keeps_its_value_given_by_position(self):
        for name, base, kept, worth in ROWS:
            if kept is not None:
                with self.subTest(name), self.assertRaises(base) as caught:
                    raise getattr(errors, name)(worth)
                self.assertEqual(getattr(caught.exception, kept), worth)
                self.assertIs(type(getattr(caught.exception, kept)), type(worth))

    def test_each_keeps_its_value_given_by_name(self):
        for name, _, kept, worth in ROWS:
            if kept is not None:
                with self.subTest(name):
                    self.assertEqual(getattr(getattr(errors, name)(**{kept: worth}), kept), worth)

    def test_no_program_takes_nothing(self):
        with self.assertRaises(ValueError):
            raise errors.NoProgram()
        with self.assertRaises(TypeError):
            errors.NoProgram(1)

    def test_the_others_need_exactly_one_value(self):
        for name, _, kept, worth in ROWS:
            if kept is not None:
                with self.subTest(name):
                    self.assertRaises(TypeError, getattr(errors, name))
                    self.assertRaises(TypeError, getattr(errors, name), worth, worth)

    def test_they_have_an_attribute_on_each_object(self):
        one, other = errors.BadLine(1), errors.BadLine(2)
        self.assertEqual((one.line, other.line), (1, 2))

    def test_point_becomes_a_tuple(self):
        point = [1, -4]
        error = errors.NoRisk(point)
        point[0] = 9
        self.assertEqual(error.point, (1, -4))
        self.assertIs(type(error.point), tuple)

    def test_condition_becomes_tuples_at_every_depth(self):
        condition = ["not", ["and", ["less", ["var", "x"], ["num", 1]], ("equal", ["num", 0], ["num", 0])]]
        error = errors.Unsafe(condition=condition)
        condition[1][1][1][1] = "changed"
        expected = ("not", ("and", ("less", ("var", "x"), ("num", 1)), ("equal", ("num", 0), ("num", 0))))
        self.assertEqual(error.condition, expected)

    def test_values_of_any_size(self):
        self.assertEqual(errors.NoRisk((10 ** 6000, -10 ** 6000)).point, (10 ** 6000, -10 ** 6000))
        self.assertEqual(errors.TooMany(10 ** 40).many, 10 ** 40)
        self.assertEqual(errors.Unsafe(("less", ("num", 10 ** 6000), ("num", 0))).condition[1][1], 10 ** 6000)

    def test_each_can_be_written(self):
        for name, _, kept, worth in ROWS:
            error = getattr(errors, name)() if kept is None else getattr(errors, name)(worth)
            self.assertIsInstance(str(error), str)
            self.assertIn(name, repr(error))


class Limits(unittest.TestCase):
    def test_greatest(self):
        self.assertIs(type(limits.GREATEST), int)
        self.assertEqual(limits.GREATEST, 10 ** 30)


if __name__ == "__main__":
    unittest.main()
