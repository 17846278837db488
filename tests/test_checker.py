"""[20] the rule of an asking, and which papers are let by."""

import copy
import unittest

from leavebook.checker import lets_by, rule_of
from leavebook.ruletexts import read_rule
from leavebook.termtexts import read_terms
from tests.made import asking, leave, other, other_row, stand_of
from tests.samples import WHATEVER, Case, nested
from tests.test_rules import ANY, OF, WITH, some

SIGNS = [("bob", "c"), ("cid", "c"), ("dan", "c"), ("bob", "s"), ("cid", "s"), ("dan", "s"), ("dan", "w")]


def stand_with(rule=None, **told):
    """A stand where an asking of pay on the till, for 30, may be done by c, b or s, which two hands of the team sign.

    w is another leave, for seeing the box.
    """
    return stand_of(
        now=5, hands=["ann", "bob", "cid", "dan", "eve"],
        groups=[("team", "bob"), ("team", "cid"), ("team", "dan")], seats=[("chief", "cid", 9)],
        things=[("box", "bob"), ("till", "ann")],
        rules=[("till", "pay", rule)] if rule else [],
        aparts=[("till", ("check", "pay"))],
        leaves=[
            leave("a", "check,pay on till by 1 ann most 3 total 100 from 2 to 9 pass 3"),
            leave("b", "pay on till by 1 ann most 3 total 100 from 2 to 9 pass 2", ["a"]),
            leave("c", "pay on till by 2 +team most 3 total 100 from 2 to 9 pass 1", ["b"]),
            leave("s", "check,pay on till by 2 +team pass 1", ["", "a"]),
            leave("w", "see on box by 1 dan,@chief"),
            leave("z", "pay on till by 2 +team", []),
        ],
        askings=[
            asking(hand="eve", amount=30, signs=told.get("signs", SIGNS)),
            asking("was", deed="check", state="done", signers=["eve"]),
        ],
    )


def part(name, chain, *signers):
    """A part of a paper, its chain told by letters."""
    return ("part", name, tuple(chain), signers)


def papers(*rows):
    return ("some", rows)


RIGHT = part("c", "cba", "bob", "cid")


class RuleOf(Case):
    def setUp(self):
        rules = [("box", "pay", WITH), ("till", "pay", OF), ("till", "see", some(1, ANY, OF))]
        self.stand = stand_of(hands=["ann"], things=[("box", "ann"), ("till", "ann")], rules=rules)

    def test_with_a_rule(self):
        self.alike(rule_of(self.stand, "pay", "till"), OF)
        self.alike(rule_of(self.stand, "see", "till"), some(1, ANY, OF))
        self.alike(rule_of(self.stand, "pay", "box"), WITH)

    def test_without_a_rule(self):
        for deed, thing in (("see", "box"), ("move", "till"), ("till", "pay"), ("pay", "none")):
            self.alike(rule_of(self.stand, deed, thing), ("any",))
        self.alike(rule_of(stand_of(), "pay", "till"), ("any",))


class Checked(Case):
    def lets(self, truth, stand, *told):
        for paper in told:
            with self.subTest(paper=paper):
                self.told(truth, lets_by(stand, "one", paper))


class Any(Checked):
    """A paper for any, right, and with just one condition broken."""

    def setUp(self):
        self.stand = stand_with()
        self.lets(True, self.stand, RIGHT)

    def broken(self, paper):
        self.lets(False, self.stand, paper)

    def broken_by(self, place, name, at, thing):
        self.lets(False, other_row(self.stand, place, name, at, thing), RIGHT)

    def with_terms(self, name, text):
        return other_row(self.stand, "leaves", name, 1, read_terms(text))

    def test_right_ones(self):
        self.lets(True, self.stand, part("c", "cba", "bob", "dan"), part("c", "cba", "bob", "cid", "dan"))
        self.lets(True, self.stand, part("s", "s", "bob", "cid"), part("s", "sa", "cid", "dan"))
        self.lets(True, stand_with(ANY), RIGHT)

    def test_asking(self):
        for state, signers in (("dropped", ()), ("done", ("bob",))):
            self.lets(False, other(self.stand, askings=[asking(amount=30, signs=SIGNS, state=state, signers=signers)]), RIGHT)
        self.told(False, lets_by(self.stand, "was", RIGHT))
        self.told(False, lets_by(self.stand, "none", RIGHT))
        self.told(False, lets_by(stand_of(), "one", RIGHT))

    def test_leave_is_there(self):
        self.broken(part("n", "n", "bob", "cid"))
        self.broken(part("n", "nba", "bob", "cid"))

    def test_leave_stands(self):
        signs = SIGNS + [("bob", "z"), ("cid", "z")]
        self.lets(False, stand_with(signs=signs), part("z", "z", "bob", "cid"), part("z", "za", "bob", "cid"))
        self.broken_by("leaves", "c", 2, ())

    def test_terms_have_the_thing(self):
        self.lets(False, self.with_terms("c", "pay on box by 2 +team most 3 total 100 from 2 to 9 pass 1"), RIGHT)

    def test_terms_have_the_deed(self):
        self.lets(False, self.with_terms("c", "check on till by 2 +team most 3 total 100 from 2 to 9 pass 1"), RIGHT)
        self.lets(True, self.with_terms("c", "check,pay on till by 2 +team most 3 total 100 from 2 to 9 pass 1"), RIGHT)

    def test_chain(self):
        for chain in ("", "c", "cb", "ba", "a", "cab", "ca", "cbaa", "cbb", "ccba", "abc", "cbs", "sa", "s", "cban", "cbz"):
            self.broken(part("c", chain, "bob", "cid"))
        self.broken(("part", "c", ("c", "b", "a", ""), ("bob", "cid")))
        self.broken(("part", "c", ["c", "b", "a"], ("bob", "cid")))
        self.broken(("part", "c", "cba", ("bob", "cid")))

    def test_chain_ends_at_the_owner(self):
        self.lets(True, other_row(self.stand, "leaves", "b", 2, ("", "a")), part("c", "cb", "bob", "cid"), RIGHT)

    def test_each_leave_of_the_chain_is_open(self):
        closed = {"a": "check,pay on till by 1 ann", "b": "pay on till by 1 ann", "c": "pay on till by 2 +team"}
        for name, head in closed.items():
            for bounds, truth in (("from 6", False), ("from 5", True), ("from 2 to 5", False), ("from 2 to 6", True)):
                self.lets(truth, self.with_terms(name, f"{head} {bounds} pass {3 - 'abc'.index(name)}"), RIGHT)

    def test_each_leave_of_the_chain_has_room(self):
        for name in "abc":
            for times, truth in ((2, True), (3, False), (4, False)):
                self.lets(truth, other_row(self.stand, "leaves", name, 3, times), RIGHT)
            for spent, truth in ((69, True), (70, True), (71, False)):
                self.lets(truth, other_row(self.stand, "leaves", name, 4, spent), RIGHT)

    def test_other_leaves_need_no_room(self):
        for name in "swz":
            self.lets(True, other_row(self.stand, "leaves", name, 3, 99), RIGHT)

    def test_signers_rising(self):
        self.broken(part("c", "cba", "cid", "bob"))
        self.broken(part("c", "cba", "bob", "bob"))
        self.broken(part("c", "cba", "bob", "cid", "cid"))
        self.broken(("part", "c", ("c", "b", "a"), ["bob", "cid"]))

    def test_as_many_signers_as_the_need(self):
        self.broken(part("c", "cba", "bob"))
        self.broken(part("c", "cba"))
        need = self.with_terms("c", "pay on till by 3 +team most 3 total 100 from 2 to 9 pass 1")
        self.lets(False, need, RIGHT)
        self.lets(True, need, part("c", "cba", "bob", "cid", "dan"))

    def test_at_most_eight_signers(self):
        hands = ["ann", "bob", "cid", "dan", "eve", "fay", "gil", "hal", "ida"]
        stand = other(self.stand, hands=hands, groups=[("team", hand) for hand in hands], askings=[asking(amount=30, signs=[(hand, "c") for hand in hands])])
        self.lets(True, stand, part("c", "cba", *hands[:8]), part("c", "cba", *hands[1:]))
        self.lets(False, stand, part("c", "cba", *hands))

    def test_signers_are_hands_of_its_who(self):
        quit_it = other(self.stand, groups=[("team", "bob"), ("team", "dan")])
        self.lets(False, quit_it, RIGHT)
        self.lets(True, quit_it, part("c", "cba", "bob", "dan"))
        signs = SIGNS + [("eve", "c"), ("zoe", "c")]
        self.lets(False, stand_with(signs=signs), part("c", "cba", "bob", "cid", "eve"), part("c", "cba", "bob", "zoe"))

    def test_signers_are_there(self):
        self.lets(False, other(self.stand, hands=["ann", "bob", "dan"]), RIGHT)

    def test_signers_have_signed_by_this_leave(self):
        for lacking in (("bob", "c"), ("cid", "c")):
            signs = [sign for sign in SIGNS if sign != lacking]
            self.lets(False, stand_with(signs=signs), RIGHT, part("c", "cba", "bob", "cid", "dan"))
        self.lets(False, stand_with(signs=[("bob", "s"), ("cid", "s"), ("bob", "a"), ("cid", "b")]), RIGHT)
        self.lets(True, stand_with(signs=[("bob", "c"), ("cid", "c")]), RIGHT)

    def test_signs_of_another_asking(self):
        rows = [asking(amount=30), asking("two", amount=30, signs=SIGNS)]
        self.lets(False, other(self.stand, askings=rows), RIGHT)
        self.told(True, lets_by(other(self.stand, askings=rows), "two", RIGHT))

    def test_signers_are_free(self):
        for hand, truth in (("bob", False), ("cid", False), ("dan", True)):
            self.lets(truth, other_row(self.stand, "askings", "was", 8, (hand,)), RIGHT)

    def test_not_free_elsewhere(self):
        busy = other_row(self.stand, "askings", "was", 8, ("bob", "cid"))
        self.lets(False, busy, RIGHT)
        self.lets(True, other_row(busy, "askings", "was", 4, "else"), RIGHT)
        self.lets(True, other_row(busy, "askings", "was", 3, "box"), RIGHT)
        self.lets(True, other_row(busy, "askings", "was", 2, "pay"), RIGHT)
        self.lets(True, other(busy, aparts=[("box", ("check", "pay"))]), RIGHT)

    def test_a_some_is_none(self):
        self.broken(papers((0, RIGHT)))

    def test_form(self):
        for at in range(4):
            for thing in WHATEVER:
                if (at, thing) != (3, ("ann", "bob")):
                    self.broken(RIGHT[:at] + (thing,) + RIGHT[at + 1:])
        self.lets(False, self.stand, RIGHT[:3], RIGHT + ((),), list(RIGHT), (RIGHT,), ("Part",) + RIGHT[1:], ("some",) + RIGHT[1:])


class Of(Checked):
    def test_right(self):
        stand = stand_with(read_rule("of bob,cid"))
        self.lets(True, stand, RIGHT, part("s", "s", "bob", "cid"))

    def test_each_signer_is_of_it(self):
        stand = stand_with(read_rule("of bob,cid"))
        self.lets(False, stand, part("c", "cba", "bob", "dan"), part("c", "cba", "bob", "cid", "dan"))
        self.lets(True, stand_with(read_rule("of bob,dan")), part("c", "cba", "bob", "dan"))

    def test_by_group_and_office(self):
        self.lets(True, stand_with(read_rule("of +team")), RIGHT)
        stand = stand_with(read_rule("of bob,@chief"))
        self.lets(True, stand, RIGHT)
        self.lets(False, other(stand, seats=[("chief", "dan", 9)]), RIGHT)
        self.lets(False, other(stand, seats=[]), RIGHT)

    def test_of_it_is_not_enough(self):
        stand = stand_with(read_rule("of bob,eve"), signs=SIGNS + [("eve", "c")])
        self.lets(False, stand, part("c", "cba", "bob", "eve"), part("c", "cba", "bob"))


class With(Checked):
    def setUp(self):
        self.stand = stand_with(read_rule("with see box"))
        self.right = part("w", "w", "dan")
        self.lets(True, self.stand, self.right)

    def test_the_deed_and_thing_that_are_told(self):
        self.lets(False, self.stand, RIGHT)
        self.lets(False, stand_with(read_rule("with see till")), self.right, RIGHT)
        self.lets(False, stand_with(read_rule("with pay box")), self.right, RIGHT)
        self.lets(False, stand_with(read_rule("with see none")), self.right)
        self.lets(True, stand_with(read_rule("with check till")), part("s", "s", "bob", "cid"), part("s", "sa", "bob", "cid"))
        self.lets(False, stand_with(read_rule("with check till")), RIGHT)

    def test_signed(self):
        self.lets(False, self.stand, part("w", "w", "cid"), part("w", "w", "cid", "dan"))

    def test_room_for_the_amount_that_is_asked(self):
        for total, truth in ((29, False), (30, True)):
            self.lets(truth, other_row(self.stand, "leaves", "w", 1, read_terms(f"see on box by 1 dan total {total}")), self.right)

    def test_free_for_the_deed_that_is_asked(self):
        self.lets(False, other_row(self.stand, "askings", "was", 8, ("dan",)), self.right)
        # Of the deed that the atom tells, nothing is asked.
        seen = asking("was", deed="look", thing="box", state="done", signers=["dan"])
        stand = other(self.stand, aparts=[("box", ("look", "see"))], askings=[self.stand[8][0], seen])
        self.lets(True, stand, self.right)


class Some(Checked):
    def test_just_k_of_them(self):
        stand = stand_with(read_rule("2 (any; of bob,cid; with see box)"))
        first, second, third = (0, part("s", "sa", "cid", "dan")), (1, RIGHT), (2, part("w", "w", "dan"))
        self.lets(True, stand, papers(first, second), papers(first, third), papers(second, third))
        self.lets(False, stand, papers(), papers(first), papers(second), papers(first, second, third))
        self.lets(False, stand, papers(second, first), papers(first, first), papers(first, (0, RIGHT)))

    def test_one_paper_twice(self):
        stand = stand_with(read_rule("all (any; any)"))
        self.lets(True, stand, papers((0, RIGHT), (1, RIGHT)))
        self.lets(False, stand, papers((0, RIGHT)), RIGHT)

    def test_one_use_for_all_of_it(self):
        stand = other_row(stand_with(read_rule("all (any; any)")), "leaves", "a", 3, 2)
        self.lets(True, stand, papers((0, RIGHT), (1, part("s", "sa", "bob", "cid"))))

    def test_each_is_one_for_its_rule(self):
        stand = stand_with(read_rule("all (any; with see box)"))
        self.lets(True, stand, papers((0, RIGHT), (1, part("w", "w", "dan"))))
        self.lets(False, stand, papers((0, part("w", "w", "dan")), (1, RIGHT)), papers((0, RIGHT), (1, RIGHT)))
        self.lets(False, stand, papers((0, RIGHT), (1, papers((0, part("w", "w", "dan"))))))

    def test_numbers(self):
        stand = stand_with(read_rule("1 (any; any)"))
        self.lets(True, stand, papers((0, RIGHT)), papers((1, RIGHT)))
        for number in (2, 5, 6, -1, -2, 10 ** 59, True, False, None, "0", (), b"0"):
            self.lets(False, stand, papers((number, RIGHT)))

    def test_form(self):
        stand = stand_with(read_rule("1 (any; any)"))
        self.lets(False, stand, ("some", [(0, RIGHT)]), ("some", ([0, RIGHT],)), ["some", ((0, RIGHT),)], ((0, RIGHT),))
        self.lets(False, stand, ("some", (0, RIGHT)), ("some", ((0, RIGHT),), ()), ("some", ((0, RIGHT, ()),)), ("part", ((0, RIGHT),)))
        self.lets(False, stand, RIGHT, ("some",), ("some", RIGHT), ("some", (RIGHT,)))
        self.lets(False, stand, *[papers((0, thing)) for thing in WHATEVER])
        self.lets(False, stand, *[("some", thing) for thing in WHATEVER])

    def test_one_within_another(self):
        stand = stand_with(read_rule("all (1 (with see none; 2 (any; of bob; with see box)); any)"))
        inner = papers((0, RIGHT), (2, part("w", "w", "dan")))
        self.lets(True, stand, papers((0, papers((1, inner))), (1, RIGHT)))
        self.lets(False, stand, papers((0, inner), (1, RIGHT)), papers((0, papers((0, inner))), (1, RIGHT)))
        self.lets(False, stand, papers((0, papers((1, RIGHT))), (1, RIGHT)), papers((0, papers((1, inner))), (1, inner)))
        wrong = papers((0, RIGHT), (1, part("c", "cba", "bob", "cid")))
        self.lets(False, stand, papers((0, papers((1, wrong))), (1, RIGHT)))

    def test_five_deep(self):
        paper = RIGHT
        for _ in range(4):
            paper = papers((0, paper))
        self.lets(True, stand_with(read_rule("all (all (all (all (any))))")), paper)
        self.lets(False, stand_with(read_rule("all (all (all (all (any))))")), papers((0, paper)), paper[1][0][1])


class Whatever(Checked):
    def test_whatever_thing(self):
        for text in ("any", "of +team", "with see box", "1 (any; of +team)", "all (any; all (any))"):
            stand = stand_with(read_rule(text))
            self.lets(False, stand, *WHATEVER, nested(100), ["part"] * 4, {"part": RIGHT}, "c>b>a:bob,cid")

    def test_a_hundred_deep(self):
        paper, listed = RIGHT, list(RIGHT)
        for _ in range(97):
            paper, listed = papers((0, paper)), [listed]
        for text in ("any", "all (all (all (all (any))))"):
            self.lets(False, stand_with(read_rule(text)), paper, listed, ("part", paper, paper, paper))

    def test_what_is_handed_in_stays(self):
        stand, paper = stand_with(read_rule("all (any; any)")), papers((0, RIGHT), (1, RIGHT))
        told = copy.deepcopy((stand, paper))
        lets_by(stand, "one", paper)
        lets_by(stand, "one", ("some", [paper]))
        self.assertEqual((stand, paper), told)


if __name__ == "__main__":
    unittest.main()
