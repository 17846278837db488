"""[19] room, usable, free."""

import unittest

from leavebook.uses import has_room, is_free, is_usable
from tests.made import asking, leave, other, stand_of
from tests.samples import Case

GREAT = 10 ** 59


def with_leave(bounds, times=0, spent=0, parents=("",), now=0):
    return stand_of(now=now, leaves=[leave("a", f"pay on till by 1 ann{bounds}", parents, times, spent)])


class Room(Case):
    def room(self, truth, amount, *told):
        with self.subTest(amount=amount, told=told):
            stand = with_leave(*told)
            self.told(truth, has_room(stand, "a", amount))
            self.told(truth, is_usable(stand, "a", amount))

    def test_most(self):
        self.room(True, 5, " most 3", 0)
        self.room(True, 5, " most 3", 2)
        self.room(False, 5, " most 3", 3)
        self.room(False, 0, " most 3", 3)
        self.room(False, 5, " most 3", 4)
        self.room(True, 0, " most 1", 0)
        self.room(False, 0, " most 1", 1)

    def test_without_most(self):
        self.room(True, 5, "", 0)
        self.room(True, 5, "", GREAT)

    def test_total(self):
        self.room(True, 9, " total 10")
        self.room(True, 10, " total 10")
        self.room(False, 11, " total 10")
        self.room(True, 3, " total 10", 1, 6)
        self.room(True, 4, " total 10", 1, 6)
        self.room(False, 5, " total 10", 1, 6)
        self.room(True, 0, " total 10", 5, 10)
        self.room(False, 1, " total 10", 5, 10)

    def test_total_nought(self):
        self.room(True, 0, " total 0", 7)
        self.room(False, 1, " total 0")

    def test_without_total(self):
        self.room(True, GREAT, "", 1, GREAT)

    def test_both(self):
        self.room(True, 4, " most 2 total 10", 1, 6)
        self.room(False, 4, " most 2 total 10", 2, 6)
        self.room(False, 5, " most 2 total 10", 1, 6)
        self.room(False, 5, " most 2 total 10", 2, 6)

    def test_many_figures(self):
        self.room(True, GREAT, f" total {2 * GREAT}", 1, GREAT)
        self.room(False, GREAT + 1, f" total {2 * GREAT}", 1, GREAT)

    def test_of_the_leave_that_is_told(self):
        stand = stand_of(leaves=[leave("a", "pay on till by 1 ann most 1", times=1), leave("b", "pay on till by 1 ann most 2", times=1)])
        self.told(False, has_room(stand, "a", 0))
        self.told(True, has_room(stand, "b", 0))


class Usable(Case):
    def test_an_ended_one_has_room_and_is_not_usable(self):
        stand = with_leave(" most 3 total 10", 1, 5, ())
        self.told(True, has_room(stand, "a", 5))
        self.told(False, has_room(stand, "a", 6))
        self.told(False, is_usable(stand, "a", 5))

    def test_one_that_is_not_open_has_room_and_is_not_usable(self):
        for now, truth in ((1, False), (2, True), (8, True), (9, False)):
            stand = with_leave(" from 2 to 9", now=now)
            self.told(True, has_room(stand, "a", 5))
            self.told(truth, is_usable(stand, "a", 5))

    def test_its_parents_are_not_asked(self):
        stand = stand_of(leaves=[leave("a", "pay on till by 1 ann most 1 pass 1", times=1), leave("b", "pay on till by 1 ann most 1", ["a"])])
        self.told(True, is_usable(stand, "b", 0))
        self.told(False, is_usable(stand, "a", 0))


APART = ("till", ("check", "pay", "see"))
DONE = asking(deed="check", state="done", signers=["ann", "bob"])


class Free(Case):
    def free(self, truth, stand, hand="ann", deed="pay", thing="till", case="case"):
        with self.subTest(hand=hand, deed=deed, thing=thing, case=case):
            self.told(truth, is_free(stand, hand, deed, thing, case))

    def setUp(self):
        self.stand = stand_of(
            hands=["ann", "bob", "cid"], things=[("box", "ann"), ("till", "ann")], aparts=[APART], askings=[DONE],
        )

    def test_another_deed_that_lies_apart(self):
        for deed in ("pay", "see"):
            self.free(False, self.stand, deed=deed)
            self.free(False, self.stand, "bob", deed)
            self.free(True, self.stand, "cid", deed)

    def test_the_same_deed(self):
        self.free(True, self.stand, deed="check")

    def test_a_deed_that_does_not_lie_apart(self):
        self.free(True, self.stand, deed="move")

    def test_another_case(self):
        self.free(True, self.stand, case="other")

    def test_another_thing(self):
        self.free(True, self.stand, thing="box")
        self.free(True, other(self.stand, aparts=[APART, ("box", APART[1])]), thing="box")

    def test_deeds_that_lie_apart_on_another_thing(self):
        self.free(True, other(self.stand, aparts=[("box", APART[1])]))

    def test_an_asking_that_is_not_done(self):
        signs = [("ann", "a"), ("bob", "a")]
        for state in ("open", "dropped"):
            self.free(True, other(self.stand, askings=[asking(deed="check", state=state, signs=signs)]))

    def test_signs_that_are_not_in_the_paper(self):
        self.free(True, other(self.stand, askings=[asking(deed="check", state="done", signs=[("ann", "a")], signers=["bob"])]))

    def test_who_asked_is_no_signer(self):
        self.free(True, other(self.stand, askings=[asking(hand="ann", deed="check", state="done", signers=["bob"])]))

    def test_both_in_one_tuple(self):
        aparts = [("till", ("check", "see")), ("till", ("pay", "see"))]
        self.free(True, other(self.stand, aparts=aparts))
        self.free(False, other(self.stand, aparts=aparts), deed="see")
        self.free(False, other(self.stand, aparts=[*aparts, ("till", ("check", "pay"))]))

    def test_any_of_more_askings(self):
        rows = [asking("five", deed="check", case="other", state="done", signers=["ann"]), DONE, asking("two", state="done", signers=["ann"])]
        self.free(False, other(self.stand, askings=rows))
        self.free(False, other(self.stand, askings=rows), deed="see")
        self.free(False, other(self.stand, askings=rows), deed="check")
        self.free(True, other(self.stand, askings=rows), "bob", "check")

    def test_nothing_lies_apart(self):
        self.free(True, other(self.stand, aparts=[]))


if __name__ == "__main__":
    unittest.main()
