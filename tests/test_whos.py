"""[5] whos, and how they are written and read."""

import re
import unittest

from leavebook.whos import is_who, read_who, who_text
from tests.samples import NO_TEXTS, WHATEVER, Case

TEAM, ANN, CHIEF = ("group", "team"), ("hand", "ann"), ("office", "chief")
SIX = tuple(("hand", name) for name in "abcdef")


def is_right_text(text):
    """Said again in another way: is this how a who is written?"""
    pieces = text.split(",")
    keys = [("+@".find(piece[:1]), piece) for piece in pieces]
    # A group has 0 there, an office 1, a hand -1.
    order = [({0: 0, -1: 1, 1: 2}[mark], piece.lstrip("+@")) for mark, piece in keys]
    right = all(re.fullmatch("[+@]?[a-z]{1,6}", piece) for piece in pieces)
    return right and len(pieces) <= 6 and order == sorted(set(order))


class Whos(Case):
    def test_whos(self):
        self.true_of(is_who, [
            (TEAM,), (ANN,), (CHIEF,), (TEAM, ANN, CHIEF), SIX, (("group", "a"), ("hand", "a"), ("office", "a")),
            (("hand", "ann"), ("hand", "bob")), (("group", "z"), ("hand", "a")),
        ])

    def test_no_whos(self):
        self.false_of(is_who, WHATEVER)
        self.false_of(is_who, [
            (), SIX + (("hand", "g"),), [ANN], ANN, (ANN, ANN), (ANN, TEAM), (CHIEF, ANN), (("hand", "bob"), ANN),
            (["hand", "ann"],), (("hand",),), (("hand", "ann", "bob"),), (("hands", "ann"),), (("", "ann"),), (("Hand", "ann"),),
            (("hand", ""),), (("hand", "abcdefg"),), (("hand", "ann\n"),), (("hand\n", "ann"),), (("hand", 1),), (("hand", None),),
            ((1, "ann"),), ((None, "ann"),), ((True, "ann"),), (([], "ann"),), (({}, "ann"),), (("ann", "hand"),), ("hand", "ann"),
            (ANN, 1), (1, ANN), (ANN, None), (ANN, ("hand", 1)), (("hand", 1), ANN), (ANN, (1, "bob")), (ANN, "bob"),
            (("hand", b"ann"),), ((b"hand", "ann"),), "ann", "+team,ann",
        ])


class Texts(Case):
    def test_written_and_read(self):
        self.written(who_text, read_who, [
            ((TEAM, ANN, CHIEF), "+team,ann,@chief"), ((ANN,), "ann"), ((TEAM,), "+team"), ((CHIEF,), "@chief"),
            (SIX, "a,b,c,d,e,f"), ((("group", "a"), ("hand", "a"), ("office", "a")), "+a,a,@a"),
            ((("group", "y"), ("group", "z"), ("hand", "a"), ("hand", "b")), "+y,+z,a,b"),
        ])

    def test_refused(self):
        self.no_text(read_who, NO_TEXTS)
        self.no_text(read_who, [
            "", "-", ",", "ann,", ",ann", "+", "@", "++team", "+@team", "@+team", "ann,+team", "@chief,ann", "@chief,+team",
            "ann,ann", "+team,+team", "bob,ann", "a,b,c,d,e,f,g", "+team, ann", " ann", "ann ", "ann\n", "\nann", "+team\n",
            "+ team", "abcdefg", "+abcdefg", "Ann", "ann;bob", "-ann", "+team,,ann", "hand ann", "team+", "1",
        ])

    def test_near_texts(self):
        texts = ["+team,ann,@chief", "ann", "a,b,c,d,e,f", "+a,a,@a"]
        self.near(who_text, read_who, is_who, texts, is_right_text)


if __name__ == "__main__":
    unittest.main()
