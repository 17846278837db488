"""[24] the fewest hands that could, and the soonest turn."""

import copy
import unittest

from leavebook.ahead import could
from leavebook.fewest import fewest, soonest
from leavebook.puts import put_to, stand_behind
from tests.made import leave, other
from tests.samples import Case, rightly_done
from tests.test_ahead import ALL, PAY, stand_with, was


class Fewest(Case):
    def are(self, some, stand, asked=PAY):
        """These are the fewest, with a row that does it."""
        before = copy.deepcopy(stand)
        told = fewest(stand, *asked)
        self.assertIs(type(told), tuple)
        self.alike(told[0], some)
        self.assertTrue(rightly_done(stand, some, asked, told[1]), told)
        self.assertEqual(len(told), 2)
        self.assertEqual(stand, before)

    def none(self, stand, asked=PAY):
        self.assertIsNone(fewest(stand, *asked))
        self.assertEqual(could(stand, list(stand[1]), *asked)[0], "never")

    def test_one_hand(self):
        self.are(["ann"], stand_with())
        self.are(["cid"], stand_with(leave("a", "pay on till by 1 cid"), things=[("till", "eve")]))
        self.are(["bob"], stand_with(leave("a", "pay on till by 1 dan"), leave("b", "pay on till by 1 bob,eve"), things=[("till", "cid")]))

    def test_the_first_of_the_least_lists(self):
        stand = stand_with(leave("a", "pay on till by 2 +team,eve,@chief"), things=[("till", "eve")])
        self.are(["eve"], stand)
        self.are(["ann", "eve"], other(stand, askings=[was("eve")]))
        self.are(["bob", "cid"], other(stand, askings=[was("ann", "eve")]))
        self.are(["bob", "dan"], other(stand, askings=[was("ann", "cid", "eve")]))
        self.are(["dan", "eve"], other(stand, askings=[was("ann", "bob", "cid", "eve")]))

    def test_fewer_ahead_of_first(self):
        # ann and bob come first, but cid alone is fewer.
        self.are(["cid"], stand_with(leave("a", "pay on till by 2 ann,bob"), leave("b", "pay on till by 1 cid"), things=[("till", "eve")]))

    def test_as_lists_compare(self):
        leaves = [leave("a", "pay on till by 2 bob,cid"), leave("b", "pay on till by 2 ann,dan")]
        self.are(["ann", "dan"], stand_with(*leaves, things=[("till", "eve")], askings=[was("eve")]))
        self.are(["bob", "dan"], stand_with(rule="all (of bob; of dan)", things=[("till", "bob")]))

    def test_many(self):
        self.are(["bob", "cid", "dan"], stand_with(leave("a", "pay on till by 1 bob,cid,dan,eve"), rule="all (of bob; of cid; of dan)"))
        self.are(ALL, stand_with(rule="all (of ann; of bob; of cid; of dan; of eve)"))

    def test_eight_hands(self):
        hands = ["a", "b", "c", "d", "e", "f", "g", "h"]
        places = {"hands": hands, "groups": [("all", hand) for hand in hands], "seats": [], "askings": [was("b", "h")]}
        held = leave("a", "pay on till by 6 +all pass 1")
        self.are(["g", "h"], stand_with(held, rule="all (any; 1 (of g; of h))", **{**places, "things": [("till", "h")]}))
        places["askings"] = []
        self.are(["c", "d", "e", "f", "g", "h"], stand_with(held, rule="all (of c; of d; of e; of f; of g; of h)", **{**places, "things": [("till", "a")]}))
        self.are(hands, stand_with(rule="all (all (of a; of b; of c; of d); all (of e; of f; of g; of h))", **{**places, "things": [("till", "a")]}))

    def test_none(self):
        self.none(stand_with(askings=[was(*ALL)]))
        self.none(stand_with(rule="of zoe"))
        self.none(stand_with(rule="all (any; with see van)"))
        self.none(stand_with(), ("pay", "van", "case", 0))
        self.none(stand_behind([]))
        self.none(stand_behind([("hand", "ann")]))

    def test_told_lists_are_the_askers_own(self):
        stand = stand_with(leave("a", "pay on till by 1 bob"))
        some, row = fewest(stand, *PAY)
        again = copy.deepcopy((some, row))
        some.clear()
        row.clear()
        self.alike(fewest(stand, *PAY), again)


class Soonest(Case):
    def at(self, turns, stand, some, bound, asked=PAY):
        before = copy.deepcopy((stand, some))
        self.alike(soonest(stand, some, *asked, bound), turns)
        self.assertEqual((stand, some), before)
        if turns is not None:
            later = put_to(stand, ("wait", turns)) if turns else stand
            self.assertEqual(could(later, some, *asked)[0], "can")

    def test_as_it_stands(self):
        for bound in (0, 1, 50):
            self.at(0, stand_with(), ["ann"], bound)
            self.at(0, stand_with(leave("a", "pay on till by 1 bob")), ["bob"], bound)

    def test_a_leave_that_opens_later(self):
        stand = stand_with(leave("a", "pay on till by 1 bob from 8"))
        for bound in (3, 4, 50):
            self.at(3, stand, ["bob"], bound)
        for bound in (0, 1, 2):
            self.at(None, stand, ["bob"], bound)
        self.at(0, stand, ["ann", "bob"], 50)

    def test_at_the_greatest_bound(self):
        self.at(50, stand_with(leave("a", "pay on till by 1 bob from 55")), ["bob"], 50)
        self.at(None, stand_with(leave("a", "pay on till by 1 bob from 56")), ["bob"], 50)

    def test_one_that_ends(self):
        self.at(0, stand_with(leave("a", "pay on till by 1 bob to 6")), ["bob"], 50)
        self.at(None, stand_with(leave("a", "pay on till by 1 bob to 5")), ["bob"], 50)
        self.at(2, stand_with(leave("a", "pay on till by 1 bob from 7 to 8")), ["bob"], 50)

    def test_one_that_ends_ahead_of_the_other(self):
        # c hangs on a; they are never open together, or only for one turn.
        above, below = "pay on till by 1 cid from 6 to 9 pass 1", "pay on till by 1 bob from 8 to 9"
        self.at(3, stand_with(leave("a", above), leave("c", below, ["a"])), ["bob"], 50)
        self.at(None, stand_with(leave("a", above), leave("c", below, ["a"])), ["bob"], 2)
        stand = stand_with(leave("a", "pay on till by 1 bob to 8"), leave("b", "see on box by 1 bob from 8"), rule="all (any; with see box)", things=[("box", "eve"), ("till", "ann")])
        self.at(None, stand, ["bob"], 50)
        self.at(3, stand, ["ann", "bob"], 50)
        self.at(0, stand, ["bob", "eve"], 50)

    def test_an_office_that_ends(self):
        self.at(0, stand_with(leave("a", "pay on till by 1 @chief")), ["dan"], 50)
        self.at(3, stand_with(leave("a", "pay on till by 1 @chief from 8")), ["dan"], 50)
        self.at(None, stand_with(leave("a", "pay on till by 1 @chief from 9")), ["dan"], 50)

    def test_never(self):
        self.at(None, stand_with(askings=[was(*ALL)]), ALL, 50)
        self.at(None, stand_with(), [], 50)
        self.at(None, stand_with(), ["ann"], 50, ("pay", "van", "case", 0))
        self.at(None, stand_with(leave("a", "pay on till by 1 bob most 1", times=1)), ["bob"], 50)


if __name__ == "__main__":
    unittest.main()
