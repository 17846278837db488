"""[18] and [19] ask, sign, unsign, drop, do: what they do to a stand, and the words with which they are refused."""

import unittest

from leavebook.ruletexts import read_rule
from leavebook.termtexts import read_terms
from tests.made import asking, leave, other, other_row, stand_of
from tests.samples import Case
from tests.test_checker import papers, part

SIGNS = [("bob", "c"), ("cid", "c")]


def stand_with(*askings, rule=None):
    """A stand where c hands pay on the till to the team, by b and a, and s is another leave of a."""
    return stand_of(
        now=5, hands=["ann", "bob", "cid", "dan"], groups=[("team", "bob"), ("team", "cid")], things=[("box", "bob"), ("till", "ann")],
        rules=[("till", "pay", read_rule(rule))] if rule else [], aparts=[("till", ("check", "pay"))],
        leaves=[
            leave("a", "check,pay on till by 1 ann most 5 total 100 pass 3", times=1, spent=10),
            leave("b", "pay on till by 1 ann most 4 total 90 pass 2", ["a"], 1, 10),
            leave("c", "pay on till by 2 +team most 3 total 80 pass 1", ["b"], 1, 10),
            leave("gone", "pay on till by 1 bob", []),
            leave("s", "check,pay on till by 1 bob,dan", ["", "a"], 4, 40),
            leave("shut", "pay on till by 1 bob from 9"),
        ],
        askings=askings,
    )


STAND = stand_with(asking(hand="dan", amount=30, signs=SIGNS), asking("shut", state="dropped", signs=SIGNS), asking("was", state="done", signs=SIGNS, signers=["bob"]))
RIGHT = part("c", "cba", "bob", "cid")


class Asked(Case):
    def comes(self, stand, entry, row):
        """Behind the entry just this asking is new or another."""
        with self.subTest(entry=entry):
            rows = [old for old in stand[8] if old[0] != row[0]]
            self.alike(self.behind(stand, entry), other(stand, askings=[*rows, row]))


class Ask(Asked):
    def test_it_is_open_then(self):
        self.comes(STAND, ("ask", "two", "ann", "see", "box", "c", 7), ("two", "ann", "see", "box", "c", 7, (), "open", ()))
        self.comes(STAND, ("ask", "a", "bob", "move", "till", "case", 0), ("a", "bob", "move", "till", "case", 0, (), "open", ()))
        self.comes(STAND, ("ask", "two", "ann", "pay", "till", "case", 10 ** 59), asking("two", amount=10 ** 59))

    def test_there(self):
        for name in ("one", "shut", "was"):
            self.refused("there", STAND, ("ask", name, "ann", "pay", "till", "case", 0))

    def test_hand_and_thing(self):
        self.refused("hand", STAND, ("ask", "two", "eve", "pay", "till", "case", 0))
        self.refused("thing", STAND, ("ask", "two", "ann", "pay", "van", "case", 0), ("ask", "two", "ann", "pay", "ann", "case", 0))

    def test_the_first_word_that_is_due(self):
        self.refused("there", STAND, ("ask", "one", "eve", "pay", "van", "case", 0), ("ask", "was", "ann", "pay", "van", "case", 0))
        self.refused("hand", STAND, ("ask", "two", "eve", "pay", "van", "case", 0))


class Sign(Asked):
    def test_sign(self):
        self.comes(STAND, ("sign", "dan", "one", "s"), asking(hand="dan", amount=30, signs=SIGNS + [("dan", "s")]))
        self.comes(STAND, ("sign", "ann", "one", "b"), asking(hand="dan", amount=30, signs=[("ann", "b")] + SIGNS))
        self.comes(STAND, ("sign", "bob", "one", "s"), asking(hand="dan", amount=30, signs=[("bob", "c"), ("bob", "s"), ("cid", "c")]))

    def test_by_one_that_is_not_open_or_not_for_it(self):
        self.comes(STAND, ("sign", "bob", "one", "shut"), asking(hand="dan", amount=30, signs=SIGNS + [("bob", "shut")]))
        stand = other(STAND, askings=[asking("two", deed="move", thing="box")])
        self.comes(stand, ("sign", "bob", "two", "c"), asking("two", deed="move", thing="box", signs=[("bob", "c")]))

    def test_asking(self):
        for name in ("shut", "was", "none"):
            self.refused("asking", STAND, ("sign", "dan", name, "s"))

    def test_leave(self):
        self.refused("leave", STAND, ("sign", "bob", "one", "gone"), ("sign", "bob", "one", "none"))

    def test_few(self):
        self.refused("few", STAND, ("sign", "dan", "one", "c"), ("sign", "eve", "one", "c"), ("sign", "ann", "one", "s"), ("sign", "bob", "one", "a"))

    def test_there(self):
        self.refused("there", STAND, ("sign", "bob", "one", "c"), ("sign", "cid", "one", "c"))

    def test_the_first_word_that_is_due(self):
        self.refused("asking", STAND, ("sign", "eve", "none", "none"), ("sign", "bob", "was", "c"), ("sign", "eve", "shut", "gone"))
        self.refused("leave", STAND, ("sign", "eve", "one", "gone"), ("sign", "eve", "one", "none"))
        self.refused("few", self.behind(STAND, ("quit", "team", "bob")), ("sign", "bob", "one", "c"))


class Unsign(Asked):
    def test_unsign(self):
        self.comes(STAND, ("unsign", "bob", "one", "c"), asking(hand="dan", amount=30, signs=[("cid", "c")]))
        self.alike(self.behind(STAND, ("unsign", "bob", "one", "c"), ("sign", "bob", "one", "c")), STAND)

    def test_one_that_is_no_hand_of_its_who_any_more_and_by_an_ended_leave(self):
        stand = other(STAND, groups=[], askings=[asking(signs=[("bob", "c"), ("bob", "gone")])])
        self.comes(stand, ("unsign", "bob", "one", "c"), asking(signs=[("bob", "gone")]))
        self.comes(stand, ("unsign", "bob", "one", "gone"), asking(signs=[("bob", "c")]))

    def test_refused(self):
        for name in ("shut", "was", "none"):
            self.refused("asking", STAND, ("unsign", "bob", name, "c"), ("unsign", "eve", name, "none"))
        self.refused("lacks", STAND, ("unsign", "dan", "one", "s"), ("unsign", "bob", "one", "s"), ("unsign", "dan", "one", "c"), ("unsign", "bob", "one", "none"))


class Drop(Asked):
    def test_signs_stay(self):
        self.comes(STAND, ("drop", "dan", "one"), asking(hand="dan", amount=30, signs=SIGNS, state="dropped"))
        self.alike(self.behind(STAND, ("drop", "dan", "one"))[7], STAND[7])

    def test_refused(self):
        self.refused("owner", STAND, ("drop", "ann", "one"), ("drop", "bob", "one"), ("drop", "eve", "one"))
        for name in ("shut", "was", "none"):
            self.refused("asking", STAND, ("drop", "ann", name), ("drop", "eve", name))


class Do(Asked):
    def done(self, stand, paper, used, signers):
        """Behind the do just these leaves are used once more for 30, and the asking is done by these signers."""
        with self.subTest(paper=paper):
            leaves = [row[:3] + (row[3] + 1, row[4] + 30) if row[0] in used else row for row in stand[7]]
            asked = {row[0]: row for row in stand[8]}
            asked["one"] = asked["one"][:7] + ("done", tuple(signers))
            self.alike(self.behind(stand, ("do", "one", paper)), other(stand, leaves=leaves, askings=asked.values()))

    def test_a_part(self):
        self.done(STAND, RIGHT, "abc", ["bob", "cid"])
        self.alike(self.behind(STAND, ("do", "one", RIGHT))[8][0], ("one", "dan", "pay", "till", "case", 30, (("bob", "c"), ("cid", "c")), "done", ("bob", "cid")))

    def test_signers_of_the_paper_alone(self):
        stand = self.behind(STAND, ("sign", "bob", "one", "s"), ("sign", "dan", "one", "s"))
        self.done(stand, part("s", "s", "dan"), "s", ["dan"])
        self.done(stand, part("s", "sa", "bob", "dan"), "as", ["bob", "dan"])

    def test_each_leave_once(self):
        stand = stand_with(asking(amount=30, signs=SIGNS + [("bob", "s"), ("dan", "s")]), rule="3 (any; any; any; any)")
        self.done(stand, papers((0, RIGHT), (1, RIGHT), (2, RIGHT)), "abc", ["bob", "cid"])
        self.done(stand, papers((0, RIGHT), (1, part("s", "sa", "dan")), (3, part("s", "s", "bob"))), "abcs", ["bob", "cid", "dan"])
        self.done(stand, papers((0, part("s", "sa", "dan")), (2, RIGHT), (3, part("s", "sa", "bob", "dan"))), "abcs", ["bob", "cid", "dan"])

    def test_one_within_another(self):
        stand = stand_with(asking(amount=30, signs=SIGNS + [("dan", "s")]), rule="all (all (any; all (any)); any)")
        inner = papers((0, part("s", "s", "dan")), (1, papers((0, RIGHT))))
        self.done(stand, papers((0, inner), (1, part("s", "s", "dan"))), "abcs", ["bob", "cid", "dan"])

    def test_an_amount_of_nought(self):
        stand = stand_with(asking(signs=SIGNS))
        behind = self.behind(stand, ("do", "one", RIGHT))
        self.assertEqual([row[3:] for row in behind[7]], [(2, 10), (2, 10), (2, 10), (0, 0), (4, 40), (0, 0)])

    def test_till_it_is_used_up(self):
        stand = stand_with(asking("one", amount=30, signs=SIGNS), asking("two", amount=30, signs=SIGNS), asking("six", amount=41, signs=SIGNS))
        stand = self.behind(stand, ("do", "one", RIGHT))
        self.refused("paper", stand, ("do", "six", RIGHT))
        stand = self.behind(stand, ("do", "two", RIGHT))
        self.assertEqual([row[3:] for row in stand[7]][:3], [(3, 70), (3, 70), (3, 70)])
        stand = self.behind(stand, ("ask", "five", "ann", "pay", "till", "else", 0), ("sign", "bob", "five", "c"), ("sign", "cid", "five", "c"))
        self.refused("paper", stand, ("do", "five", RIGHT))

    def test_a_parent_that_two_share_is_used_by_both(self):
        stand = stand_with(asking("one", amount=60, signs=SIGNS), asking("two", amount=60, signs=[("dan", "s")]))
        stand = self.behind(stand, ("do", "one", RIGHT))
        self.refused("paper", stand, ("do", "two", part("s", "sa", "dan")))
        self.assertEqual(self.behind(stand, ("do", "two", part("s", "s", "dan")))[7][4][3:], (5, 100))

    def test_deeds_that_lie_apart_are_not_signed_by_one_hand_then(self):
        stand = stand_with(asking(signs=SIGNS), asking("two", deed="check", signs=[("bob", "s"), ("dan", "s")]), asking("six", deed="check", case="else", signs=[("bob", "s")]))
        self.behind(stand, ("do", "two", part("s", "s", "bob")))
        stand = self.behind(stand, ("do", "one", RIGHT))
        self.refused("paper", stand, ("do", "two", part("s", "s", "bob")), ("do", "two", part("s", "s", "bob", "dan")))
        self.behind(stand, ("do", "two", part("s", "s", "dan")))
        self.behind(stand, ("do", "six", part("s", "s", "bob")))

    def test_asking(self):
        for name in ("shut", "was", "none"):
            self.refused("asking", STAND, ("do", name, RIGHT), ("do", name, part("none", ("none",), "eve")))
        self.refused("asking", self.behind(STAND, ("do", "one", RIGHT)), ("do", "one", RIGHT))

    def test_paper(self):
        self.refused("paper", STAND, ("do", "one", part("c", "cba", "bob")), ("do", "one", part("c", "cb", "bob", "cid")), ("do", "one", papers((0, RIGHT))))
        self.refused("paper", other_row(STAND, "leaves", "a", 3, 5), ("do", "one", RIGHT))
        self.refused("paper", other_row(STAND, "leaves", "b", 1, read_terms("pay on till by 1 ann from 6 pass 2")), ("do", "one", RIGHT))
        self.refused("paper", self.behind(STAND, ("unsign", "cid", "one", "c")), ("do", "one", RIGHT))
        self.refused("paper", self.behind(STAND, ("take", ("ann",), "b", "a", "fall")), ("do", "one", RIGHT))

    def test_form_ahead_of_paper(self):
        self.refused("form", STAND, ("do", "one", ("part", "c", ("b", "a"), ("bob",))), ("do", "none", ()), ("do", "one", list(RIGHT)))


if __name__ == "__main__":
    unittest.main()
