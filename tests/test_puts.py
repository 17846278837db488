"""[2], [12] to [14] putting entries to stands, whatever they are."""

import copy
import unittest

from leavebook.errors import LeaveError, Refused
from leavebook.puts import put_to, stand_behind
from leavebook.stands import first_stand
from leavebook.termtexts import read_terms
from tests.made import asking, leave, stand_of
from tests.samples import WHATEVER, Case
from tests.test_entries import RIGHT, put
from tests.test_rules import ANY, OF

# One of each kind, each right behind the ones ahead.
ENTRIES = [
    ("hand", "bob"), ("hand", "ann"), ("hand", "cid"), ("join", "team", "cid"), ("join", "team", "bob"), ("quit", "team", "cid"),
    ("seat", "clerk", "ann", 9), ("seat", "chief", "bob", 2), ("unseat", "clerk"), ("thing", "till", "ann"), ("rule", "till", "see", OF),
    ("rule", "till", "pay", ANY), ("apart", "till", ("check", "pay")), ("wait", 2),
    ("give", "b", ("ann",), "", read_terms("pay on till by 1 +team,cid most 2 pass 2")),
    ("give", "a", ("bob",), "b", read_terms("pay on till by 1 bob most 1 pass 1")),
    ("give", "c", ("bob",), "a", read_terms("pay on till by 1 cid most 1")),
    ("back", ("cid",), "c", "b"), ("take", ("ann",), "c", "a", "fall"),
    ("ask", "one", "cid", "pay", "till", "case", 5), ("ask", "two", "ann", "pay", "till", "case", 5),
    ("sign", "cid", "one", "c"), ("sign", "bob", "one", "a"), ("unsign", "bob", "one", "a"), ("sign", "bob", "two", "a"), ("drop", "ann", "two"),
    ("do", "one", ("part", "c", ("c", "b"), ("cid",))),
]
BEHIND = stand_of(
    now=2, hands=["ann", "bob", "cid"], groups=[("team", "bob")], things=[("till", "ann")], rules=[("till", "pay", ANY), ("till", "see", OF)],
    aparts=[("till", ("check", "pay"))],
    leaves=[
        leave("a", "pay on till by 1 bob most 1 pass 1", ["b"]),
        leave("b", "pay on till by 1 +team,cid most 2 pass 2", [""], 1, 5),
        leave("c", "pay on till by 1 cid most 1", ["b"], 1, 5),
    ],
    askings=[
        asking("one", "cid", amount=5, signs=[("cid", "c")], state="done", signers=["cid"]),
        asking("two", "ann", amount=5, signs=[("bob", "a")], state="dropped"),
    ],
)


class Form(Case):
    def test_whatever(self):
        for stand in (first_stand(), BEHIND):
            self.refused("form", stand, *WHATEVER, (), "hand zoe", ["hand", "zoe"], ("hand",), ("hand", "zoe", "zoe"), ("none", "zoe"))

    def test_each_kind_with_a_wrong_thing_in_a_place(self):
        for entry in RIGHT.values():
            for place in range(len(entry)):
                self.refused("form", BEHIND, put(entry, place, []), put(entry, place, ("", None)), put(entry, place, True))
            self.refused("form", BEHIND, list(entry), entry[:-1], entry + (1,))

    def test_edges(self):
        self.refused("form", BEHIND, ("wait", 0), ("wait", -1), ("seat", "chief", "ann", 0), ("apart", "till", ("pay",)), ("apart", "till", ("see", "pay")))
        self.refused("form", BEHIND, ("ask", "six", "ann", "pay", "till", "case", -1), ("take", ("ann",), "a", "b", "both"), ("hand", ""), ("rule", "till", "pay", ()))
        self.refused("form", BEHIND, ("back", ("bob", "ann"), "a", ""), ("back", (), "a", ""), ("drop", "", "one"), ("sign", "cid", "one", ""))

    def test_form_is_a_leave_error_with_a_word(self):
        with self.assertRaises(LeaveError) as caught:
            put_to(first_stand(), None)
        self.assertIs(type(caught.exception), Refused)
        self.assertEqual(caught.exception.word, "form")


class StandBehind(Case):
    def test_no_entries(self):
        self.alike(stand_behind([]), first_stand())

    def test_some(self):
        self.alike(stand_behind([("hand", "ann"), ("wait", 3)]), (3, ("ann",), (), (), (), (), (), (), ()))
        self.alike(stand_behind(ENTRIES), BEHIND)
        self.assertEqual({entry[0] for entry in ENTRIES}, set(RIGHT))

    def test_one_behind_the_other(self):
        stand = first_stand()
        for at, entry in enumerate(ENTRIES):
            stand = self.behind(stand, entry)
            self.alike(stand_behind(ENTRIES[:at + 1]), stand)

    def test_with_a_wrong_one(self):
        for wrong, word in ((None, "form"), ((), "form"), (("wait", 0), "form"), (("hand", "ann"), "there"), (("join", "team", "eve"), "hand"), (("thing", "box", "eve"), "hand")):
            for entries in ([("hand", "ann"), wrong], [("hand", "ann"), wrong, ("hand", "eve")], [("hand", "ann"), ("wait", 1), wrong, None]):
                with self.subTest(entries=entries), self.assertRaises(Refused) as caught:
                    stand_behind(entries)
                self.assertEqual(caught.exception.word, word)

    def test_the_first_one_that_is_wrong(self):
        with self.assertRaises(Refused) as caught:
            stand_behind([("join", "team", "ann"), None])
        self.assertEqual(caught.exception.word, "hand")

    def test_what_is_handed_in_stays(self):
        entries = copy.deepcopy(ENTRIES)
        told = stand_behind(entries)
        self.assertEqual(entries, ENTRIES)
        entries.clear()
        self.assertEqual(told, BEHIND)
        self.assertEqual(stand_behind(ENTRIES), BEHIND)


if __name__ == "__main__":
    unittest.main()
