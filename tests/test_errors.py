import unittest

from hostfields import errors
from helper import REFUSALS


class ErrorsTest(unittest.TestCase):
    def made(self, name):
        if name in ("NoBattle", "NoText"):
            return getattr(errors, name)(3)
        return getattr(errors, name)()

    def test_host_error_stands_under_value_error(self):
        self.assertTrue(issubclass(errors.HostError, ValueError))
        with self.assertRaises(ValueError):
            raise errors.HostError()

    def test_each_refusal_stands_straight_under_host_error(self):
        for name in REFUSALS:
            self.assertEqual(getattr(errors, name).__bases__, (errors.HostError,), name)
            self.assertEqual(getattr(errors, name).__name__, name)

    def test_each_refusal_is_caught_as_itself_host_error_and_value_error(self):
        for name in REFUSALS:
            for caught_as in (getattr(errors, name), errors.HostError, ValueError):
                with self.assertRaises(caught_as):
                    raise self.made(name)

    def test_no_refusal_is_caught_as_another_one(self):
        for name in REFUSALS:
            for other in REFUSALS:
                caught = isinstance(self.made(name), getattr(errors, other))
                self.assertEqual(caught, name == other, (name, other))

    def test_no_battle_has_its_field(self):
        for field in (-1, 0, 4):
            self.assertEqual(errors.NoBattle(field).field, field)

    def test_no_text_has_its_row(self):
        for row in (0, 7, 10 ** 30):
            self.assertEqual(errors.NoText(row).row, row)

    def test_each_error_has_a_value_of_its_own(self):
        one = errors.NoBattle(1)
        errors.NoBattle(2)
        self.assertEqual(one.field, 1)
        line = errors.NoText(1)
        errors.NoText(2)
        self.assertEqual(line.row, 1)


if __name__ == "__main__":
    unittest.main()
