"""The errors of the interface."""

import unittest

from leavebook.errors import LeaveError, NoRow, NoText, Refused
from tests.samples import Case


class Errors(Case):
    def test_each_is_a_leave_error(self):
        self.assertEqual(LeaveError.__bases__, (ValueError,))
        for error in (NoText, NoRow, Refused):
            self.assertTrue(issubclass(error, LeaveError))
            self.assertTrue(issubclass(error, ValueError))

    def test_none_is_under_another(self):
        errors = (NoText, NoRow, Refused)
        for one in errors:
            for other in errors:
                self.assertEqual(issubclass(one, other), one is other)

    def test_refused_has_its_word(self):
        for word in ("form", "there", "hand"):
            refused = Refused(word)
            self.assertEqual(refused.word, word)
            with self.assertRaises(LeaveError) as held:
                raise refused
            self.assertEqual(held.exception.word, word)

    def test_each_object_has_its_own_word(self):
        one, other = Refused("form"), Refused("few")
        self.assertEqual((one.word, other.word), ("form", "few"))


if __name__ == "__main__":
    unittest.main()
