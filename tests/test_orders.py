"""[25] two entries in either order."""

import copy
import unittest

from leavebook.orders import either_order
from leavebook.ruletexts import read_rule
from leavebook.stands import first_stand
from leavebook.termtexts import read_terms
from tests.made import asking, leave, other, stand_of
from tests.samples import WHATEVER, Case

TURNED = {"alike": "alike", "unlike": "unlike", "first": "second", "second": "first", "neither": "neither"}


def stand_with(**places):
    """A stand with a leave b by the owner and by p, c and d by b (d by p, too), and an open asking."""
    stand = stand_of(
        now=5, hands=["ann", "bob", "cid"], groups=[("team", "bob")], seats=[("clerk", "cid", 9)], things=[("till", "ann")],
        leaves=[
            leave("b", "pay on till by 1 ann pass 3", ["", "p"]), leave("c", "pay on till by 1 ann pass 1", ["b"]),
            leave("d", "pay on till by 1 ann pass 1", ["b", "p"]), leave("p", "pay on till by 1 ann pass 4"), leave("q", "pay on till by 1 ann most 1"),
        ],
        askings=[asking("one", "ann", signs=[("ann", "q")]), asking("two", "ann", signs=[("ann", "q")])],
    )
    return other(stand, **places)


def give(name, parent, on=0):
    return ("give", name, ("ann",), parent, read_terms(f"pay on till by 1 ann{f' pass {on}' if on else ''}"))


def back(child, parent):
    return ("back", ("ann",), child, parent)


def take(child, parent, how="pass"):
    return ("take", ("ann",), child, parent, how)


class Both(Case):
    def are(self, word, one, other_one, stand=None):
        """The word is told of the two, and the turned one of the two turned."""
        stand = stand_with() if stand is None else stand
        before = (copy.deepcopy(stand), repr((one, other_one)))
        with self.subTest(one=one, other=other_one):
            self.assertEqual(either_order(stand, one, other_one), word)
            self.assertEqual(either_order(stand, other_one, one), TURNED[word])
        self.assertEqual((stand, repr((one, other_one))), before)


class Orders(Both):
    def test_alike(self):
        self.are("alike", ("hand", "dan"), ("hand", "eve"))
        self.are("alike", ("hand", "dan"), ("wait", 2))
        self.are("alike", ("wait", 3), ("wait", 2))
        self.are("alike", ("join", "team", "ann"), ("quit", "team", "bob"))
        self.are("alike", ("seat", "chief", "ann", 2), ("unseat", "clerk"))
        self.are("alike", ("rule", "till", "pay", read_rule("any")), ("rule", "till", "see", read_rule("any")))
        self.are("alike", ("apart", "till", ("pay", "see")), ("do", "one", ("part", "q", ("q",), ("ann",))))
        self.are("alike", give("x", "b"), give("y", "b"))
        self.are("alike", give("x", ""), ("sign", "ann", "one", "b"))
        self.are("alike", ("sign", "ann", "one", "b"), ("sign", "ann", "two", "b"))
        self.are("alike", ("unsign", "ann", "one", "q"), ("drop", "ann", "two"))
        self.are("alike", take("c", "b", "fall"), take("d", "b", "fall"))
        self.are("alike", take("b", "p", "fall"), take("d", "p", "fall"))
        self.are("alike", take("b", "p", "fall"), give("x", "b"))
        self.are("alike", back("c", "p"), take("d", "b", "fall"))

    def test_first_and_second(self):
        self.are("first", ("hand", "dan"), ("join", "team", "dan"))
        self.are("first", ("hand", "dan"), ("thing", "box", "dan"))
        self.are("first", ("thing", "box", "ann"), ("rule", "box", "pay", None))
        self.are("first", ("thing", "box", "ann"), ("apart", "box", ("pay", "see")))
        self.are("first", ("unseat", "clerk"), ("seat", "clerk", "ann", 3))
        self.are("first", ("unseat", "clerk"), ("wait", 4))
        self.are("first", ("wait", 4), ("seat", "clerk", "ann", 3))
        soon = ("give", "x", ("ann",), "e", read_terms("pay on till by 1 ann to 6"))
        self.are("second", ("wait", 9), soon, other(stand_with(), leaves=[leave("e", "pay on till by 1 ann to 6 pass 3")]))
        self.are("first", give("x", "b", 1), give("y", "x"))
        self.are("first", give("x", "b"), ("sign", "ann", "one", "x"))
        self.are("first", give("x", "b"), take("b", "p", "fall"), other(stand_with(), leaves=[leave("b", "pay on till by 1 ann pass 2", ["p"]), leave("p", "pay on till by 1 ann pass 4")]))
        self.are("first", ("ask", "six", "ann", "pay", "till", "case", 0), ("sign", "ann", "six", "b"))
        self.are("first", ("do", "one", ("part", "q", ("q",), ("ann",))), take("q", "", "fall"))
        self.are("first", ("sign", "ann", "one", "b"), ("drop", "ann", "one"))
        self.are("first", ("sign", "ann", "one", "b"), ("do", "one", ("part", "b", ("b",), ("ann",))))
        self.are("second", ("do", "one", ("part", "b", ("b",), ("ann",))), ("sign", "ann", "one", "b"))

    def test_neither(self):
        self.are("neither", ("do", "one", ("part", "q", ("q",), ("ann",))), ("do", "two", ("part", "q", ("q",), ("ann",))))
        self.are("neither", ("hand", "ann"), ("wait", 1))
        self.are("neither", ("hand", "eve"), ("join", "team", "dan"))
        self.are("neither", give("x", "b"), give("x", "p"))
        self.are("neither", ("drop", "ann", "one"), ("do", "one", ("part", "q", ("q",), ("ann",))))
        self.are("neither", take("c", "b"), take("c", "b", "fall"))

    def test_whatever(self):
        for thing in WHATEVER + ["wait 1", ["wait", 1], ("wait",), ("wait", 0)]:
            self.are("neither", thing, ("wait", 1))
            self.are("neither", thing, thing)
            self.are("neither", thing, None)
            self.are("neither", thing, ("hand", "ann"))

    def test_an_entry_and_itself(self):
        for entry in (("wait", 2), ("rule", "till", "pay", read_rule("any")), ("rule", "till", "pay", None)):
            self.are("alike", entry, entry)
        for entry in (("hand", "dan"), ("join", "team", "ann"), ("seat", "chief", "ann", 2), ("unseat", "clerk"), ("thing", "box", "ann"),
                      ("apart", "till", ("pay", "see")), give("x", "b"), back("c", "p"), take("c", "b"), ("sign", "ann", "one", "b"), ("drop", "ann", "one")):
            self.are("neither", entry, entry)

    def test_of_the_first_stand(self):
        self.are("alike", ("hand", "ann"), ("wait", 1), first_stand())
        self.are("first", ("hand", "ann"), ("thing", "till", "ann"), first_stand())


class Unlike(Both):
    """Each of the ways by which unlike comes, and what is near to it."""

    def test_a_wait_and_a_seat(self):
        self.are("unlike", ("wait", 1), ("seat", "chief", "ann", 2))
        self.are("unlike", ("wait", 5), ("seat", "chief", "ann", 2))
        self.are("unlike", ("seat", "chief", "ann", 2), ("wait", 2))
        self.are("alike", ("seat", "chief", "ann", 2), ("seat", "head", "ann", 3))

    def test_two_unlike_rules(self):
        self.are("unlike", ("rule", "till", "pay", read_rule("any")), ("rule", "till", "pay", read_rule("of ann")))
        self.are("unlike", ("rule", "till", "pay", None), ("rule", "till", "pay", read_rule("of ann")))
        self.are("alike", ("rule", "till", "pay", read_rule("any")), ("rule", "till", "see", read_rule("of ann")))
        self.are("alike", ("rule", "till", "pay", read_rule("any")), ("rule", "till", "pay", read_rule("any")))

    def test_a_take_with_pass_and_a_give(self):
        self.are("unlike", take("b", "p"), give("x", "b"))
        self.are("unlike", take("b", ""), give("x", "b"))
        self.are("alike", take("b", "p", "fall"), give("x", "b"))
        self.are("alike", take("b", "p"), give("x", "p"))

    def test_a_take_with_pass_and_a_back(self):
        stand = other(stand_with(), leaves=[*stand_with()[7], leave("e", "pay on till by 1 ann pass 1")])
        self.are("unlike", take("b", "p"), back("e", "b"), stand)
        self.are("alike", take("b", "p", "fall"), back("e", "b"), stand)
        self.are("alike", take("b", ""), back("e", "b"), stand)
        self.are("alike", take("b", "p"), back("e", "p"), stand)

    def test_a_take_with_pass_and_a_take_by_it(self):
        for how in ("fall", "pass"):
            self.are("unlike", take("b", "p"), take("c", "b", how))
            self.are("unlike", take("b", ""), take("d", "b", how))
            # d has p already.
            self.are("alike", take("b", "p"), take("d", "b", how))
            self.are("alike", take("b", "p", "fall"), take("c", "b", how) if how == "fall" else take("d", "b", how))

    def test_a_take_with_pass_and_a_take_by_the_parent_that_is_passed_on(self):
        for how in ("fall", "pass"):
            self.are("unlike", take("b", "p"), take("d", "p", how))
        self.are("alike", take("b", "p", "fall"), take("d", "p", "fall"))


if __name__ == "__main__":
    unittest.main()
