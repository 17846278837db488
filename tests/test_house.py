"""[14] what the house does to a stand, and the words with which it is refused."""

import unittest

from leavebook.stands import first_stand
from tests.made import asking, leave, other, stand_of
from tests.samples import Case
from tests.test_rules import ANY, OF, WITH, deep, some

# All places have rows, so that each test tells that the others stay.
STAND = stand_of(
    now=3, hands=["ann", "bob", "cid"], groups=[("team", "ann"), ("team", "bob")], seats=[("chief", "bob", 8), ("clerk", "ann", 5)],
    things=[("till", "ann")], rules=[("till", "pay", OF)], aparts=[("till", ("check", "pay"))],
    leaves=[leave("a", "pay on till by 1 ann")], askings=[asking(signs=[("ann", "a")])],
)


class House(Case):
    def comes(self, stand, entry, **places):
        """Behind the entry just these places are others."""
        with self.subTest(entry=entry):
            self.alike(self.behind(stand, entry), other(stand, **places))


class Hands(House):
    def test_comes(self):
        self.comes(STAND, ("hand", "abe"), hands=["abe", "ann", "bob", "cid"])
        self.comes(STAND, ("hand", "bea"), hands=["ann", "bea", "bob", "cid"])
        self.comes(STAND, ("hand", "zoe"), hands=["ann", "bob", "cid", "zoe"])
        self.alike(self.behind(first_stand(), ("hand", "ann")), (0, ("ann",), (), (), (), (), (), (), ()))

    def test_names_of_other_kinds(self):
        self.comes(STAND, ("hand", "team"), hands=["ann", "bob", "cid", "team"])
        self.comes(STAND, ("hand", "till"), hands=["ann", "bob", "cid", "till"])

    def test_there(self):
        self.refused("there", STAND, ("hand", "ann"), ("hand", "cid"))


class Groups(House):
    def test_join(self):
        self.comes(STAND, ("join", "team", "cid"), groups=[("team", "ann"), ("team", "bob"), ("team", "cid")])
        self.comes(STAND, ("join", "crew", "ann"), groups=[("crew", "ann"), ("team", "ann"), ("team", "bob")])

    def test_join_refused(self):
        self.refused("hand", STAND, ("join", "team", "eve"), ("join", "none", "eve"))
        self.refused("there", STAND, ("join", "team", "ann"), ("join", "team", "bob"))

    def test_quit(self):
        self.comes(STAND, ("quit", "team", "ann"), groups=[("team", "bob")])
        self.comes(STAND, ("quit", "team", "bob"), groups=[("team", "ann")])

    def test_quit_refused(self):
        self.refused("hand", STAND, ("quit", "team", "eve"), ("quit", "none", "eve"))
        self.refused("lacks", STAND, ("quit", "team", "cid"), ("quit", "none", "ann"), ("quit", "chief", "bob"))

    def test_again(self):
        self.alike(self.behind(STAND, ("quit", "team", "ann"), ("join", "team", "ann")), STAND)


class Seats(House):
    def test_seat(self):
        self.comes(STAND, ("seat", "guard", "ann", 1), seats=[*STAND[3], ("guard", "ann", 4)])
        self.comes(STAND, ("seat", "a", "bob", 10 ** 59), seats=[("a", "bob", 10 ** 59 + 3), *STAND[3]])
        self.comes(STAND, ("seat", "team", "cid", 5), seats=[*STAND[3], ("team", "cid", 8)])

    def test_seat_refused(self):
        self.refused("hand", STAND, ("seat", "guard", "eve", 1))
        self.refused("there", STAND, ("seat", "chief", "ann", 1), ("seat", "chief", "bob", 1), ("seat", "clerk", "cid", 9))

    def test_hand_ahead_of_there(self):
        self.refused("hand", STAND, ("seat", "chief", "eve", 1))

    def test_unseat(self):
        self.comes(STAND, ("unseat", "chief"), seats=[("clerk", "ann", 5)])
        self.comes(STAND, ("unseat", "clerk"), seats=[("chief", "bob", 8)])
        self.comes(self.behind(STAND, ("unseat", "chief")), ("seat", "chief", "ann", 2), seats=[("chief", "ann", 5), ("clerk", "ann", 5)])

    def test_unseat_refused(self):
        self.refused("lacks", STAND, ("unseat", "guard"), ("unseat", "team"))
        self.refused("lacks", self.behind(STAND, ("unseat", "chief")), ("unseat", "chief"))


class Waits(House):
    def test_turns_go_by(self):
        self.comes(STAND, ("wait", 1), now=4)
        self.comes(first_stand(), ("wait", 10 ** 59), now=10 ** 59)

    def test_one_turn_ahead_of_the_end(self):
        self.comes(STAND, ("wait", 1), now=4)
        self.comes(STAND, ("wait", 4), now=7, seats=[("chief", "bob", 8)])

    def test_at_the_end(self):
        self.comes(STAND, ("wait", 2), now=5, seats=[("chief", "bob", 8)])
        self.comes(STAND, ("wait", 5), now=8, seats=[])

    def test_beyond_the_end(self):
        self.comes(STAND, ("wait", 3), now=6, seats=[("chief", "bob", 8)])
        self.comes(STAND, ("wait", 99), now=102, seats=[])

    def test_turn_by_turn(self):
        self.alike(self.behind(STAND, ("wait", 2), ("wait", 3)), self.behind(STAND, ("wait", 5)))

    def test_held_again(self):
        ahead = self.behind(STAND, ("wait", 1))
        self.refused("there", ahead, ("seat", "clerk", "cid", 1))
        behind = self.behind(STAND, ("wait", 2))
        self.refused("lacks", behind, ("unseat", "clerk"))
        self.comes(behind, ("seat", "clerk", "cid", 1), seats=[("chief", "bob", 8), ("clerk", "cid", 6)])
        self.alike(self.behind(behind, ("seat", "clerk", "cid", 1), ("wait", 1)), other(STAND, now=6, seats=[("chief", "bob", 8)]))


class Things(House):
    def test_comes(self):
        self.comes(STAND, ("thing", "box", "cid"), things=[("box", "cid"), ("till", "ann")])
        self.comes(STAND, ("thing", "van", "ann"), things=[("till", "ann"), ("van", "ann")])

    def test_refused(self):
        self.refused("there", STAND, ("thing", "till", "ann"), ("thing", "till", "bob"))
        self.refused("hand", STAND, ("thing", "box", "eve"))

    def test_there_ahead_of_hand(self):
        self.refused("there", STAND, ("thing", "till", "eve"))


class Rules(House):
    def test_a_new_one(self):
        self.comes(STAND, ("rule", "till", "see", WITH), rules=[("till", "pay", OF), ("till", "see", WITH)])
        self.comes(STAND, ("rule", "till", "check", ANY), rules=[("till", "check", ANY), ("till", "pay", OF)])

    def test_in_the_place_of_one_that_was(self):
        for rule in (ANY, WITH, some(1, ANY, OF), deep(5)):
            self.comes(STAND, ("rule", "till", "pay", rule), rules=[("till", "pay", rule)])
        self.comes(STAND, ("rule", "till", "pay", OF))

    def test_of_this_deed_on_this_thing_alone(self):
        stand = self.behind(STAND, ("thing", "box", "ann"), ("rule", "box", "pay", ANY), ("rule", "till", "see", WITH))
        self.alike(stand[5], (("box", "pay", ANY), ("till", "pay", OF), ("till", "see", WITH)))
        self.comes(stand, ("rule", "till", "pay", WITH), rules=[("box", "pay", ANY), ("till", "pay", WITH), ("till", "see", WITH)])
        self.comes(stand, ("rule", "till", "pay", None), rules=[("box", "pay", ANY), ("till", "see", WITH)])

    def test_none(self):
        self.comes(STAND, ("rule", "till", "pay", None), rules=[])
        self.comes(STAND, ("rule", "till", "see", None))

    def test_refused(self):
        self.refused("thing", STAND, ("rule", "box", "pay", OF), ("rule", "box", "pay", None), ("rule", "ann", "pay", OF))


class Aparts(House):
    def test_comes(self):
        self.comes(STAND, ("apart", "till", ("check", "pay", "see")), aparts=[("till", ("check", "pay")), ("till", ("check", "pay", "see"))])
        self.comes(STAND, ("apart", "till", ("a", "b")), aparts=[("till", ("a", "b")), ("till", ("check", "pay"))])

    def test_on_another_thing(self):
        stand = self.behind(STAND, ("thing", "box", "ann"))
        self.comes(stand, ("apart", "box", ("check", "pay")), aparts=[("box", ("check", "pay")), ("till", ("check", "pay"))])

    def test_refused(self):
        self.refused("thing", STAND, ("apart", "box", ("check", "pay")), ("apart", "box", ("a", "b")))
        self.refused("there", STAND, ("apart", "till", ("check", "pay")))


if __name__ == "__main__":
    unittest.main()
