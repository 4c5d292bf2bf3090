import unittest

from turnguard.errors import GuardError, Late, NoProgram
from turnguard.texts import read


class Refusals(unittest.TestCase):
    def test_all_stand_under_guard_error_alone(self):
        self.assertTrue(issubclass(GuardError, ValueError))
        for kind in (NoProgram, Late):
            self.assertTrue(issubclass(kind, GuardError))
        self.assertFalse(issubclass(NoProgram, Late))
        self.assertFalse(issubclass(Late, NoProgram))

    def test_fields_are_set_when_made(self):
        self.assertEqual(NoProgram(3).row, 3)
        self.assertEqual(Late(7).delay, 7)
        self.assertIsNone(Late(None).delay)

    def test_fields_belong_to_each_object(self):
        first = NoProgram(1)
        second = NoProgram(2)
        self.assertEqual((first.row, second.row), (1, 2))

    def test_a_refusal_of_read_is_taken_as_any_of_its_classes(self):
        for kind in (NoProgram, GuardError, ValueError):
            with self.assertRaises(kind):
                read("back a")


if __name__ == "__main__":
    unittest.main()
