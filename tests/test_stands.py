"""[13] the first stand."""

import unittest

from leavebook.stands import first_stand
from tests.samples import Case


class Stands(Case):
    def test_now_nought_and_nothing_else(self):
        self.alike(first_stand(), (0, (), (), (), (), (), (), (), ()))
        self.assertIs(type(first_stand()[0]), int)

    def test_each_time_alike(self):
        self.assertEqual(first_stand(), first_stand())


if __name__ == "__main__":
    unittest.main()
