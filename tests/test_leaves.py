"""[15] which leaves stand and are open, and who may hand on."""

import unittest

from leavebook.leaves import is_open, may_hand_on, stands_now
from tests.made import leave, other, stand_of
from tests.samples import Case

STAND = stand_of(
    now=5, hands=["ann", "bob", "cid", "dan"], groups=[("team", "bob"), ("team", "cid")], seats=[("chief", "dan", 9)],
    things=[("box", "bob"), ("till", "ann")],
    leaves=[
        leave("a", "pay on till by 2 +team,dan pass 2"),
        leave("b", "pay on till by 1 @chief pass 1", ["a"]),
        leave("c", "pay on till by 1 cid", ["", "a", "b"]),
        leave("gone", "pay on till by 1 cid pass 5", []),
    ],
)


class StandsNow(Case):
    def test_given(self):
        self.true_of(lambda name: stands_now(STAND, name), ["a", "b", "c"])

    def test_ended(self):
        self.told(False, stands_now(STAND, "gone"))

    def test_never_given(self):
        self.false_of(lambda name: stands_now(STAND, name), ["d", "till", "ann", "aa", "zzzzzz"])
        self.told(False, stands_now(stand_of(), "a"))

    def test_one_that_is_not_open_stands(self):
        early = other(STAND, leaves=[leave("a", "pay on till by 1 ann from 6"), leave("b", "pay on till by 1 ann to 5")])
        self.true_of(lambda name: stands_now(early, name), ["a", "b"])


class IsOpen(Case):
    def opened(self, truth, now, bounds, parents=("",)):
        with self.subTest(now=now, bounds=bounds):
            stand = stand_of(now=now, leaves=[leave("a", f"pay on till by 1 ann{bounds}", parents)])
            self.told(truth, is_open(stand, "a"))

    def test_start(self):
        self.opened(False, 2, " from 3")
        self.opened(True, 3, " from 3")
        self.opened(True, 4, " from 3")
        self.opened(True, 0, "")

    def test_end(self):
        self.opened(True, 0, " to 1")
        self.opened(False, 1, " to 1")
        self.opened(True, 8, " to 9")
        self.opened(False, 9, " to 9")
        self.opened(False, 10, " to 9")

    def test_both(self):
        for now, truth in ((2, False), (3, True), (4, False), (5, False)):
            self.opened(truth, now, " from 3 to 4")

    def test_without_end(self):
        self.opened(True, 10 ** 60, "")
        self.opened(True, 10 ** 60, " from 3")

    def test_many_figures(self):
        great = 10 ** 59
        self.opened(True, great - 1, f" from {great - 1} to {great}")
        self.opened(False, great, f" from {great - 1} to {great}")
        self.opened(False, great - 2, f" from {great - 1} to {great}")

    def test_ended(self):
        self.opened(False, 3, "", ())
        self.opened(False, 3, " from 3 to 4", ())

    def test_never_given(self):
        self.false_of(lambda name: is_open(STAND, name), ["gone", "d", "till"])
        self.true_of(lambda name: is_open(STAND, name), ["a", "b", "c"])


class MayHandOn(Case):
    def may(self, truth, signers, parent, thing="till", stand=STAND):
        with self.subTest(signers=signers, parent=parent, thing=thing):
            self.told(truth, may_hand_on(stand, tuple(signers), thing, parent))

    def test_by_the_owner(self):
        self.may(True, ["ann"], "")
        self.may(False, ["ann", "bob"], "")
        self.may(False, ["bob"], "")
        self.may(False, ["bob", "cid"], "")
        self.may(False, ["eve"], "")

    def test_by_the_owner_of_another_thing(self):
        self.may(True, ["bob"], "", "box")
        self.may(False, ["ann"], "", "box")

    def test_of_a_thing_that_is_not_there(self):
        self.may(False, ["ann"], "", "none")
        self.may(False, ["ann"], "", "ann")

    def test_by_a_leave(self):
        self.may(False, ["bob"], "a")
        self.may(True, ["bob", "cid"], "a")
        self.may(True, ["bob", "cid", "dan"], "a")
        self.may(True, ["cid", "dan"], "a")
        self.may(True, ["dan"], "b")

    def test_by_a_leave_with_one_that_is_no_hand_of_its_who(self):
        self.may(False, ["ann", "bob"], "a")
        self.may(False, ["ann", "bob", "cid"], "a")
        self.may(False, ["bob", "cid", "eve"], "a")
        self.may(False, ["cid", "dan"], "b")
        self.may(False, ["cid"], "b")

    def test_the_owner_is_no_hand_of_each_who(self):
        self.may(False, ["ann"], "b")

    def test_by_an_office_that_is_held_no_more(self):
        self.may(False, ["dan"], "b", stand=other(STAND, seats=[]))

    def test_by_one_that_does_not_stand(self):
        self.may(False, ["cid"], "gone")
        self.may(False, ["cid"], "none")

    def test_by_one_that_is_not_open(self):
        self.may(True, ["ann"], "a", stand=other(STAND, leaves=[leave("a", "pay on till by 1 ann to 5")]))

    def test_by_the_highest_need(self):
        hands = ["ann", "bob", "cid", "dan", "eve", "fay"]
        stand = other(STAND, hands=hands, leaves=[leave("a", "pay on till by 6 ann,bob,cid,dan,eve,fay")])
        self.may(True, hands, "a", stand=stand)
        self.may(False, hands[:5], "a", stand=stand)


if __name__ == "__main__":
    unittest.main()
