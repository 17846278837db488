"""[2] whole numbers and rising; [8] how whole numbers are written."""

import sys
import unittest

from leavebook.basics import is_rising, is_whole, read_whole, whole_text
from tests.samples import Case


class Wholes(Case):
    def test_a_truth_is_no_whole_number(self):
        self.false_of(lambda thing: is_whole(thing, 0), [True, False, None, "1", b"1", [], (1,), -1])
        self.true_of(lambda thing: is_whole(thing, 0), [0, 1, 10 ** 60])

    def test_the_least_one(self):
        self.told(True, is_whole(3, 3))
        self.told(False, is_whole(2, 3))

    def test_rising(self):
        self.true_of(is_rising, [(), ("a",), ("a", "b"), [1, 2, 9]])
        self.false_of(is_rising, [("a", "a"), ("b", "a"), [1, 3, 2], (1, 2, 2)])


class Figures(Case):
    def test_written_and_read(self):
        rows = [(number, str(number)) for number in list(range(1200)) + [10 ** 59, 10 ** 60 - 1, 7 * 10 ** 40 + 30]]
        self.written(whole_text, read_whole, rows)

    def test_many_figures(self):
        text = "9" + "0123456789" * 399 + "012345678"
        self.assertEqual(len(text), 4000)
        self.assertEqual(whole_text(read_whole(text)), text)
        self.assertEqual(read_whole("1" + "0" * 3999), 10 ** 3999)
        self.assertEqual(whole_text(10 ** 3999 - 1), "9" * 3999)

    def test_no_bound_of_python_is_met(self):
        kept = sys.get_int_max_str_digits()
        sys.set_int_max_str_digits(640)
        try:
            self.assertEqual(whole_text(10 ** 4000 + 1), "1" + "0" * 3999 + "1")
            self.assertEqual(read_whole("1" + "0" * 3999 + "1"), 10 ** 4000 + 1)
        finally:
            sys.set_int_max_str_digits(kept)

    def test_every_other_sign_is_refused(self):
        for sign in [chr(at) for at in range(32, 127) if not 48 <= at <= 57] + ["\n", "\t"]:
            self.no_text(read_whole, [sign, sign + "1", "1" + sign, "1" + sign + "1"])

    def test_refused(self):
        self.no_text(read_whole, [
            "", "00", "01", "007", "-1", "+1", " 1", "1 ", "1\n", "\n1", "1_0", "1.0", "a", "1a", "0x1", "\u0661", "\u00b2",
        ])


if __name__ == "__main__":
    unittest.main()
