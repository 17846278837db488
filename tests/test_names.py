"""[4] names; [5] hands as texts."""

import re
import unittest

from leavebook.names import hands_text, is_name, is_names, read_hands
from tests.samples import NO_TEXTS, WHATEVER, Case


def is_right_text(text):
    """Said again in another way: is this how hands are written?"""
    if text == "-":
        return True
    names = text.split(",")
    return all(re.fullmatch("[a-z]{1,6}", name) for name in names) and names == sorted(set(names))


class Names(Case):
    def test_names(self):
        self.true_of(is_name, ["a", "z", "ann", "abcdef", "zzzzzz", "hand", "none"])

    def test_no_names(self):
        self.false_of(is_name, WHATEVER)
        self.false_of(is_name, ["", "abcdefg", "a" * 2000, "ann\n", "a\nb", "a b", "A", "aB", "a1", "0", "a,b", "`", "{"])

    def test_every_sign(self):
        for sign in [chr(at) for at in range(32, 127)] + ["\n"]:
            right = "a" <= sign <= "z"
            for text in (sign, "a" + sign, sign + "a", "a" + sign + "a"):
                self.told(right, is_name(text))

    def test_rising_tuples(self):
        self.true_of(is_names, [(), ("a",), ("ann", "bob"), ("a", "aa", "ab", "b"), tuple("abcdefghijklmnopqrstuvwxyz")])

    def test_no_rising_tuples(self):
        self.false_of(is_names, WHATEVER)
        self.false_of(is_names, [
            ["ann", "bob"], "ann", ("ann", "ann"), ("bob", "ann"), ("a", "c", "b"), ("a", "b", "b"), ("",), ("a", ""), ("", "a"),
            ("ann", 1), (1, "ann"), (None, "ann"), (True,), ("ann\n",), ("abcdefg",), (("ann",),), ("a", ["b"]), {"a": 1},
            ("a", None, "b"), (1, 2), (None, None),
        ])


class Hands(Case):
    def test_written_and_read(self):
        self.written(hands_text, read_hands, [
            ((), "-"), (("ann",), "ann"), (("ann", "bob"), "ann,bob"), (("a", "aa", "b"), "a,aa,b"),
            (tuple("abcdefghijklmnopqrstuvwxyz"), ",".join("abcdefghijklmnopqrstuvwxyz")),
        ])

    def test_lists_are_written_too(self):
        self.assertEqual(hands_text([]), "-")
        self.assertEqual(hands_text(["ann"]), "ann")
        self.assertEqual(hands_text(["ann", "bob", "cid"]), "ann,bob,cid")

    def test_two_hundred(self):
        hands = tuple(sorted(one + other for one in "abcdefghij" for other in "abcdefghijklmnopqrst"))
        self.assertEqual(len(hands), 200)
        self.assertEqual(read_hands(hands_text(hands)), hands)

    def test_refused(self):
        self.no_text(read_hands, NO_TEXTS)
        self.no_text(read_hands, [
            "", " ", ",", "ann,", ",ann", "ann,,bob", "ann, bob", "ann ", " ann", "ann\n", "\nann", "ann,bob\n", "--", "-,ann",
            "ann,-", "bob,ann", "ann,ann", "abcdefg", "ann,abcdefg", "Ann", "ann;bob", "ann bob", "+team", "@chief", "1", "- ",
            "-\n",
        ])

    def test_near_texts(self):
        self.near(hands_text, read_hands, is_names, ["-", "ann", "ann,bob", "a,aa,abcdef"], is_right_text)

    def test_what_is_handed_in_stays(self):
        hands = ["ann", "bob"]
        text = hands_text(hands)
        self.assertEqual(hands, ["ann", "bob"])
        hands.append("cid")
        self.assertEqual(text, "ann,bob")
        self.assertEqual(hands_text(["ann", "bob"]), "ann,bob")


if __name__ == "__main__":
    unittest.main()
