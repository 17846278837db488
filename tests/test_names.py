"""[4] names; [5] hands as texts."""

import re
import unittest

from leavebook.names import fresh_name, hands_text, is_name, is_names, name_at, read_hands
from tests.samples import NO_TEXTS, WHATEVER, Case


def is_right_text(text):
    """Said again in another way: is this how hands are written?"""
    if text == "-":
        return True
    names = text.split(",")
    return all(re.fullmatch("[a-z]{1,6}", name) for name in names) and names == sorted(set(names))


class Names(Case):
    def test_names(self):
        self.true_of(is_name, ["a", "z", "ann", "abcdef", "zzzzzz", "hand", "none"])

    def test_no_names(self):
        self.false_of(is_name, WHATEVER)
        self.false_of(is_name, ["", "abcdefg", "a" * 2000, "ann\n", "a\nb", "a b", "A", "aB", "a1", "0", "a,b", "`", "{"])

    def test_every_sign(self):
        for sign in [chr(at) for at in range(32, 127)] + ["\n"]:
            right = "a" <= sign <= "z"
            for text in (sign, "a" + sign, sign + "a", "a" + sign + "a"):
                self.told(right, is_name(text))

    def test_rising_tuples(self):
        self.true_of(is_names, [(), ("a",), ("ann", "bob"), ("a", "aa", "ab", "b"), tuple("abcdefghijklmnopqrstuvwxyz")])

    def test_no_rising_tuples(self):
        self.false_of(is_names, WHATEVER)
        self.false_of(is_names, [
            ["ann", "bob"], "ann", ("ann", "ann"), ("bob", "ann"), ("a", "c", "b"), ("a", "b", "b"), ("",), ("a", ""), ("", "a"),
            ("ann", 1), (1, "ann"), (None, "ann"), (True,), ("ann\n",), ("abcdefg",), (("ann",),), ("a", ["b"]), {"a": 1},
            ("a", None, "b"), (1, 2), (None, None),
        ])


class Hands(Case):
    def test_written_and_read(self):
        self.written(hands_text, read_hands, [
            ((), "-"), (("ann",), "ann"), (("ann", "bob"), "ann,bob"), (("a", "aa", "b"), "a,aa,b"),
            (tuple("abcdefghijklmnopqrstuvwxyz"), ",".join("abcdefghijklmnopqrstuvwxyz")),
        ])

    def test_lists_are_written_too(self):
        self.assertEqual(hands_text([]), "-")
        self.assertEqual(hands_text(["ann"]), "ann")
        self.assertEqual(hands_text(["ann", "bob", "cid"]), "ann,bob,cid")

    def test_two_hundred(self):
        hands = tuple(sorted(one + other for one in "abcdefghij" for other in "abcdefghijklmnopqrst"))
        self.assertEqual(len(hands), 200)
        self.assertEqual(read_hands(hands_text(hands)), hands)

    def test_refused(self):
        self.no_text(read_hands, NO_TEXTS)
        self.no_text(read_hands, [
            "", " ", ",", "ann,", ",ann", "ann,,bob", "ann, bob", "ann ", " ann", "ann\n", "\nann", "ann,bob\n", "--", "-,ann",
            "ann,-", "bob,ann", "ann,ann", "abcdefg", "ann,abcdefg", "Ann", "ann;bob", "ann bob", "+team", "@chief", "1", "- ",
            "-\n",
        ])

    def test_near_texts(self):
        self.near(hands_text, read_hands, is_names, ["-", "ann", "ann,bob", "a,aa,abcdef"], is_right_text)

    def test_what_is_handed_in_stays(self):
        hands = ["ann", "bob"]
        text = hands_text(hands)
        self.assertEqual(hands, ["ann", "bob"])
        hands.append("cid")
        self.assertEqual(text, "ann,bob")
        self.assertEqual(hands_text(["ann", "bob"]), "ann,bob")


class Fresh(Case):
    def test_names_by_number(self):
        for number, name in ((0, "a"), (25, "z"), (26, "aa"), (27, "ab"), (51, "az"), (52, "ba"), (701, "zz"), (702, "aaa"), (26 ** 2 + 26 + 26 ** 3, "aaaa")):
            self.assertEqual(name_at(number), name)
        names = [name_at(number) for number in range(3000)]
        self.true_of(is_name, names[::100])
        self.assertEqual(names, sorted(set(names), key=lambda name: (len(name), name)))

    def test_a_name_that_is_not_taken(self):
        self.assertEqual(fresh_name([]), "a")
        self.assertEqual(fresh_name(["b", "ann"]), "a")
        self.assertEqual(fresh_name(["c", "a", "b"]), "d")
        self.assertEqual(fresh_name(list("abcdefghijklmnopqrstuvwxyz")), "aa")


if __name__ == "__main__":
    unittest.main()
