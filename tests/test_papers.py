"""[20] a paper that is let by is told just where there is one."""

import copy
import unittest

from leavebook.checker import lets_by
from leavebook.entries import is_entry
from leavebook.papers import paper_of
from leavebook.ruletexts import read_rule
from leavebook.termtexts import read_terms
from tests.made import asking, other, other_row, stand_of
from tests.samples import Case
from tests.test_checker import SIGNS, papers, part, stand_with

# The leaves for pay on the till, in the stand of test_checker, with its chains.
BY_C, BY_S = part("c", "cba", "bob", "cid"), part("s", "s", "bob", "cid")


def only(*names, rule=None):
    """The stand with signs by these leaves alone."""
    return stand_with(rule and read_rule(rule), signs=[sign for sign in SIGNS if sign[1] in names])


class Papers(Case):
    def is_one(self, stand, expected=None):
        """A paper is told, and let by, and may be done; where just one is right, that one."""
        paper = paper_of(stand, "one")
        self.assertIsNotNone(paper)
        self.told(True, lets_by(stand, "one", paper))
        self.told(True, is_entry(("do", "one", paper)))
        self.behind(stand, ("do", "one", paper))
        if expected is not None:
            self.alike(paper, expected)

    def is_none(self, stand):
        self.assertIsNone(paper_of(stand, "one"))

    def test_any(self):
        self.is_one(stand_with())
        self.is_one(stand_with(signs=[("bob", "c"), ("cid", "c")]), BY_C)
        self.is_one(stand_with(signs=[("bob", "c"), ("dan", "c")], rule=read_rule("any")), part("c", "cba", "bob", "dan"))

    def test_not_enough_hands(self):
        self.is_none(stand_with(signs=[]))
        self.is_none(stand_with(signs=[("bob", "c"), ("bob", "s"), ("dan", "w")]))
        self.is_none(stand_with(signs=[("bob", "c"), ("cid", "s")]))

    def test_hands_that_are_none_of_its_who_any_more(self):
        stand = stand_with(signs=[("bob", "c"), ("cid", "c")])
        self.is_none(other(stand, groups=[("team", "cid"), ("team", "dan")]))

    def test_of(self):
        self.is_one(only("c", rule="of bob,cid"), BY_C)
        self.is_one(only("c", rule="of +none,cid,dan"), part("c", "cba", "cid", "dan"))
        self.is_one(only("c", rule="of bob,@chief"), BY_C)
        self.is_none(only("c", rule="of bob"))
        self.is_none(only("c", rule="of @chief"))
        self.is_none(only("c", rule="of ann,bob,eve"))

    def test_with(self):
        self.is_one(only("w", rule="with see box"), part("w", "w", "dan"))
        self.is_none(only("c", "s", rule="with see box"))
        self.is_none(only("c", "s", "w", rule="with see till"))
        self.is_none(only("c", "s", "w", rule="with see none"))
        self.is_one(only("c", "s", rule="with check till"))
        self.is_none(only("c", rule="with check till"))

    def test_some(self):
        self.is_one(only("c", rule="all (any; any)"), papers((0, BY_C), (1, BY_C)))
        self.is_one(only("c", "w", rule="2 (any; of eve; with see box)"), papers((0, BY_C), (2, part("w", "w", "dan"))))
        self.is_one(only("w", rule="1 (any; with see box)"), papers((1, part("w", "w", "dan"))))
        self.is_none(only("c", rule="2 (any; of eve; with see box)"))
        self.is_none(only("c", rule="all (any; with see box)"))

    def test_just_k_where_more_can(self):
        self.is_one(only("c", "s", "w", rule="2 (any; any; with see box; any)"))
        self.is_one(only("c", "s", "w", rule="1 (any; any; with see box; any)"))
        self.is_one(only("c", "s", "w", rule="all (any; any; with see box; any)"))

    def test_one_within_another(self):
        rule = "all (1 (with see none; 2 (any; of bob; with see box)); any)"
        inner = papers((0, BY_C), (2, part("w", "w", "dan")))
        self.is_one(only("c", "w", rule=rule), papers((0, papers((1, inner))), (1, BY_C)))
        self.is_none(only("c", rule=rule))
        self.is_none(only("w", rule=rule))

    def test_deepest_and_greatest(self):
        self.is_one(only("c", rule="all (all (all (all (any))))"))
        rows = "; ".join(["any"] * 6)
        self.is_one(only("c", rule=f"all (all ({rows}); all ({rows}); all ({rows}); any)"))
        self.is_one(only("c", rule=f"1 (1 (with see none); 1 (with see none; 1 ({rows})))".replace("1 (with see none)", "all (with see none)")))

    def test_barred_above(self):
        for name in "abc":
            self.is_none(other_row(only("c"), "leaves", name, 3, 3))
            self.is_none(other_row(only("c"), "leaves", name, 4, 71))
            self.is_one(other_row(only("c"), "leaves", name, 4, 70), BY_C)

    def test_closed(self):
        for text, right in (("from 6", False), ("from 5", True), ("from 2 to 5", False), ("from 2 to 6", True)):
            stand = other_row(only("c"), "leaves", "b", 1, read_terms(f"pay on till by 1 ann {text} pass 2"))
            (self.is_one if right else self.is_none)(stand)

    def test_a_way_round(self):
        # s hangs on the owner and on a: either way is enough.
        stand = only("s")
        self.is_one(stand)
        self.is_one(other_row(stand, "leaves", "s", 2, ("a",)), part("s", "sa", "bob", "cid"))
        self.is_one(other_row(stand, "leaves", "a", 3, 3), BY_S)
        self.is_none(other_row(other_row(stand, "leaves", "s", 2, ("a",)), "leaves", "a", 3, 3))

    def test_the_longer_way_where_the_shorter_is_barred(self):
        stand = other_row(only("c"), "leaves", "c", 2, ("b", "s"))
        stand = other_row(stand, "leaves", "s", 1, read_terms("check,pay on till by 2 +team most 1 pass 2"))
        self.is_one(stand)
        self.is_one(other_row(stand, "leaves", "s", 3, 1), BY_C)
        self.is_one(other_row(stand, "leaves", "b", 3, 3))

    def test_another_leave_where_the_first_is_barred(self):
        self.is_one(other_row(only("c", "s"), "leaves", "c", 3, 3))
        self.is_one(other_row(only("c", "s"), "leaves", "s", 2, ()), BY_C)

    def test_ended(self):
        self.is_none(other_row(only("c"), "leaves", "c", 2, ()))

    def test_signers_that_are_not_free(self):
        busy = other_row(only("c"), "askings", "was", 8, ("bob",))
        self.is_one(busy, part("c", "cba", "cid", "dan"))
        self.is_none(other_row(busy, "askings", "was", 8, ("bob", "dan")))
        self.is_one(other_row(busy, "askings", "was", 4, "else"))

    def test_more_hands_signed_than_eight(self):
        hands = ["ann", "bob", "cid", "dan", "eve", "fay", "gil", "hal", "ida", "joe"]
        for need in range(1, 7):
            stand = other(
                stand_with(), hands=hands, groups=[("team", hand) for hand in hands],
                askings=[asking(hand="eve", amount=30, signs=[(hand, "c") for hand in hands])],
            )
            self.is_one(other_row(stand, "leaves", "c", 1, read_terms(f"pay on till by {need} +team pass 1")))

    def test_of_one_that_is_not_open(self):
        self.assertIsNone(paper_of(stand_with(), "was"))
        self.assertIsNone(paper_of(stand_with(), "none"))

    def test_no_leaves_at_all(self):
        self.is_none(stand_of(hands=["ann"], things=[("till", "ann")], askings=[asking()]))

    def test_what_is_handed_in_stays(self):
        stand = stand_with(read_rule("2 (any; of bob,cid; with see box)"))
        told = copy.deepcopy(stand)
        self.alike(paper_of(stand, "one"), paper_of(stand, "one"))
        self.assertEqual(stand, told)


if __name__ == "__main__":
    unittest.main()
