"""The errors of the program: barswoven/errors.py."""

import unittest

from barswoven import errors

PLAIN = (
    "NoInverse", "InvalidMatrix", "Singular", "InvalidTime", "InvalidRow", "InvalidMap",
    "InvalidWeaving", "InvalidGrowth", "NoChain",
)
NAMED = ("InvalidName", "DuplicateName", "UnknownName")
ALL = PLAIN + NAMED + ("InvalidText",)


class ErrorTest(unittest.TestCase):
    def test_base_class(self):
        self.assertEqual(errors.WovenError.__bases__, (ValueError,))

    def test_thirteen_direct_subclasses(self):
        self.assertEqual(len(ALL), 13)
        for name in ALL:
            with self.subTest(name=name):
                self.assertEqual(getattr(errors, name).__bases__, (errors.WovenError,))

    def test_no_other_classes(self):
        found = {kind.__name__ for kind in errors.WovenError.__subclasses__()}
        self.assertEqual(found, set(ALL))

    def test_raised_and_caught_by_name(self):
        for name in PLAIN:
            kind = getattr(errors, name)
            with self.subTest(name=name):
                with self.assertRaises(kind):
                    raise kind("words")

    def test_each_is_none_of_the_other_ones(self):
        kinds = [getattr(errors, name) for name in ALL]
        for name, kind in zip(ALL, kinds):
            fault = kind(3) if name == "InvalidText" else kind("abc")
            self.assertIsInstance(fault, errors.WovenError)
            self.assertIsInstance(fault, ValueError)
            self.assertEqual([isinstance(fault, other) for other in kinds], [other is kind for other in kinds])

    def test_field_name(self):
        for name in NAMED:
            for told in ("a", "", "Not A Name", "x" * 20):
                with self.subTest(name=name, told=told):
                    self.assertEqual(getattr(errors, name)(told).name, told)

    def test_field_line(self):
        for line in (1, 2, 140):
            self.assertEqual(errors.InvalidText(line).line, line)

    def test_errors_say_something(self):
        for name in NAMED:
            self.assertIn("abc", str(getattr(errors, name)("abc")))
        self.assertIn("17", str(errors.InvalidText(17)))


if __name__ == "__main__":
    unittest.main()
