"""[15] the hands of a who."""

import copy
import unittest

from leavebook.hands import hands_of
from leavebook.whos import read_who
from tests.made import other, stand_of
from tests.samples import Case

STAND = stand_of(
    now=3, hands=["ann", "bob", "cid", "dan"],
    groups=[("team", "cid"), ("team", "ann"), ("crew", "dan"), ("chief", "bob")],
    seats=[("chief", "dan", 9), ("clerk", "ann", 4), ("team", "bob", 5)],
)


class Hands(Case):
    def meant(self, text, hands, stand=STAND):
        with self.subTest(who=text):
            self.alike(hands_of(stand, read_who(text)), hands)

    def test_by_name(self):
        self.meant("ann", ["ann"])
        self.meant("ann,bob,dan", ["ann", "bob", "dan"])

    def test_by_group(self):
        self.meant("+team", ["ann", "cid"])
        self.meant("+crew,+team", ["ann", "cid", "dan"])

    def test_by_office(self):
        self.meant("@chief", ["dan"])
        self.meant("@chief,@clerk", ["ann", "dan"])

    def test_each_kind_has_its_own_names(self):
        self.meant("team", [])
        self.meant("@team", ["bob"])
        self.meant("+chief", ["bob"])
        self.meant("+ann,@ann", [])

    def test_by_more_than_one_of_them_each_once(self):
        self.meant("+team,ann,@clerk", ["ann", "cid"])
        self.meant("+team,bob,@chief", ["ann", "bob", "cid", "dan"])
        self.meant("+chief,cid,@clerk", ["ann", "bob", "cid"])

    def test_none_of_them_there(self):
        self.meant("eve", [])
        self.meant("+none", [])
        self.meant("@none", [])
        self.meant("bob,eve,zoe", ["bob"])

    def test_an_office_held_no_more(self):
        self.meant("@chief", [], other(STAND, seats=[("clerk", "ann", 4)]))
        self.meant("@chief", ["ann"], other(STAND, seats=[("chief", "ann", 4)]))

    def test_while_now_is_below_until(self):
        for now, hands in ((7, ["dan"]), (8, ["dan"]), (9, []), (10, [])):
            self.meant("@chief", hands, other(STAND, now=now))

    def test_a_group_that_was_quit(self):
        self.meant("+team", ["ann"], other(STAND, groups=[("team", "ann")]))

    def test_no_hands_at_all(self):
        self.meant("+team,ann,@chief", [], stand_of())

    def test_the_askers_own(self):
        stand, who = copy.deepcopy(STAND), read_who("+team,bob")
        told = hands_of(stand, who)
        told.clear()
        self.assertEqual(hands_of(stand, who), ["ann", "bob", "cid"])
        self.assertEqual((stand, who), (STAND, read_who("+team,bob")))


if __name__ == "__main__":
    unittest.main()
