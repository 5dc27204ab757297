import unittest

from splitcosts import errors

GIVEN = ("InvalidForm", "InvalidTable", "InvalidSolver", "InvalidAid", "InvalidShare", "InvalidNumber",
         "InvalidAmount", "InvalidLot", "InvalidSmoother", "InvalidWeight", "TooMany")
INDEX = ("InvalidRow", "InvalidRows", "InvalidMethod", "InvalidSplit", "InvalidLots", "InvalidTeam", "InvalidSpans",
         "InvalidParts", "InvalidLadder")
PLAIN = ("NotWhole", "NotSafe")
VALUES = (0, -3, 10 ** 400, True, None, "", "text", b"x", (), (1, (2, [3])), [1], {"a": 1}, object(), ValueError,
          {1, 2}, 1.5)


class Errors(unittest.TestCase):
    def keeps(self, name, attribute):
        made = getattr(errors, name)
        for value in VALUES:
            self.assertIs(getattr(made(value), attribute), value)
            self.assertIs(getattr(made(**{attribute: value}), attribute), value)
            self.assertEqual(vars(made(value)), {attribute: value})

    def test_given(self):
        for name in GIVEN:
            with self.subTest(name):
                self.keeps(name, "given")

    def test_index(self):
        for name in INDEX:
            with self.subTest(name):
                self.keeps(name, "index")

    def test_without_attributes(self):
        for name in PLAIN + ("CostError",):
            self.assertEqual(vars(getattr(errors, name)()), {})

    def test_just_one_attribute_is_asked(self):
        for name in GIVEN + INDEX:
            made = getattr(errors, name)
            self.assertRaises(TypeError, made)
            self.assertRaises(TypeError, made, 1, 2)
            self.assertRaises(TypeError, lambda: made(what=1))

    def test_bases(self):
        self.assertEqual(errors.CostError.__bases__, (ValueError,))
        for name in GIVEN + INDEX + PLAIN:
            with self.subTest(name):
                self.assertEqual(getattr(errors, name).__bases__, (errors.CostError,))

    def test_no_class_stands_under_another_one(self):
        names = GIVEN + INDEX + PLAIN
        for name in names:
            for other in names:
                self.assertEqual(issubclass(getattr(errors, name), getattr(errors, other)), name == other)
            self.assertFalse(issubclass(getattr(errors, name), (LookupError, TypeError, ArithmeticError)))

    def test_each_is_defined_in_its_file_and_there_is_no_other(self):
        found = {name for name, value in vars(errors).items() if isinstance(value, type)}
        self.assertEqual(found, set(GIVEN + INDEX + PLAIN + ("CostError",)))
        for name in found:
            self.assertEqual(getattr(errors, name).__module__, "splitcosts.errors")

    def test_they_are_caught_by_their_base(self):
        for name in GIVEN + INDEX:
            with self.assertRaises(errors.CostError):
                raise getattr(errors, name)(None)
        for name in PLAIN:
            with self.assertRaises(ValueError):
                raise getattr(errors, name)()


if __name__ == "__main__":
    unittest.main()
