"""[21] what a lack is; just one of both, a paper or a lack."""

import copy
import unittest

from leavebook.bars import bars
from leavebook.lacks import is_lack, lack_of
from leavebook.papers import paper_of
from leavebook.ruletexts import read_rule
from leavebook.termtexts import read_terms
from tests.made import asking, leave, other, other_row, stand_of
from tests.samples import Case


def stand_with(text="any", **places):
    """A stand where nothing can be done for pay on the till, for 30.

    up and b are used up, c and d hang on b (d also on s, which is closed), e has too few signs, z has ended; w, x and y
    are for other deeds or another thing.
    """
    stand = stand_of(
        now=5, hands=["ann", "bob", "cid", "dan"], groups=[("team", "bob"), ("team", "cid")],
        things=[("box", "bob"), ("till", "ann")], rules=[("till", "pay", read_rule(text))], aparts=[("till", ("check", "pay"))],
        leaves=[
            leave("b", "check,pay on till by 1 ann most 3 pass 3", times=3),
            leave("c", "pay on till by 1 bob most 3 pass 2", ["b"]),
            leave("d", "pay on till by 1 +team most 3", ["b", "s"]),
            leave("e", "pay on till by 2 +team"),
            leave("s", "pay on till by 1 ann from 6 pass 3"),
            leave("up", "pay on till by 1 bob total 29"),
            leave("w", "see on box by 1 dan"),
            leave("x", "check,see on till by 1 dan most 1", times=1),
            leave("y", "pay on box by 1 bob"),
            leave("z", "pay on till by 1 bob", []),
        ],
        askings=[
            asking(amount=30, signs=[("bob", "c"), ("bob", "d"), ("cid", "d"), ("bob", "e"), ("bob", "up"), ("bob", "z")]),
            asking("shut", state="dropped"), asking("was", deed="check", state="done", signers=["dan"]),
        ],
    )
    return other(stand, **places)


SHOWS = [
    ("b", "few", ()), ("c", "barred", ("b",)), ("d", "barred", ("b", "s")), ("e", "few", ("bob",)), ("s", "few", ()), ("up", "barred", ("up",)),
    ("z", "ended", ()),
]
LACK = [(0, SHOWS)]
SEE_BOX = [("w", "few", ())]
CHECK = [("b", "few", ()), ("x", "few", ())]


def showing(name, word, told, shows=SHOWS):
    """The lack with another show of a leave."""
    return [(0, [(name, word, told) if show[0] == name else show for show in shows])]


class Lacks(Case):
    def both(self, stand):
        """What is told: just one of both, and let by."""
        lack = lack_of(stand, "one")
        self.assertEqual(lack is None, paper_of(stand, "one") is not None)
        if lack is not None:
            self.told(True, is_lack(stand, "one", lack))
        return lack

    def lets(self, truth, stand, *lacks):
        for lack in lacks:
            with self.subTest(lack=lack):
                told = copy.deepcopy(lack)
                self.told(truth, is_lack(stand, "one", lack))
                self.assertEqual(lack, told)


class LackOf(Lacks):
    def kinds(self, stand):
        return {show[0]: show[1:] for number, shows in self.both(stand) for show in shows}

    def test_all_words(self):
        lack = self.both(stand_with())
        self.assertEqual([number for number, shows in lack], [0])
        shows = lack[0][1]
        self.assertEqual([show[0] for show in shows], ["b", "c", "d", "e", "s", "up", "z"])
        told = {show[0]: show[1:] for show in shows}
        self.assertEqual(told["z"], ("ended", ()))
        self.assertEqual(told["e"], ("few", ("bob",)))
        self.assertEqual((told["c"][0], told["d"][0], told["up"][0]), ("barred", "barred", "barred"))

    def test_no_leave_at_all(self):
        self.alike(self.both(stand_with(leaves=[])), [(0, [])])
        self.alike(self.both(stand_with("with see van")), [(0, [])])

    def test_where_there_is_a_paper(self):
        signs = stand_with()[8][0][6] + (("cid", "e"),)
        self.assertIsNone(self.both(other_row(stand_with(), "askings", "one", 6, signs)))
        self.assertIsNone(self.both(other_row(stand_with(), "leaves", "b", 3, 2)))
        self.assertIsNone(self.both(other_row(stand_with(), "leaves", "up", 1, read_terms("pay on till by 1 bob total 30"))))
        self.assertIsNone(self.both(stand_with(now=6)))

    def test_few_by_whos_signs_and_freedom(self):
        stand = stand_with(leaves=[leave("e", "pay on till by 2 +team")])
        signs = (("bob", "e"), ("cid", "e"), ("dan", "e"))
        stand = other_row(stand, "askings", "one", 6, signs)
        self.assertIsNone(self.both(stand))
        self.assertEqual(self.kinds(other(stand, groups=[("team", "cid")])), {"e": ("few", ("cid",))})
        self.assertEqual(self.kinds(other_row(stand, "askings", "was", 8, ("bob", "dan"))), {"e": ("few", ("cid",))})
        self.assertEqual(self.kinds(other(stand, rules=[("till", "pay", read_rule("of bob,dan"))])), {"e": ("few", ("bob",))})
        self.assertEqual(self.kinds(other_row(stand, "askings", "one", 6, signs[1:])), {"e": ("few", ("cid",))})

    def test_of_and_with(self):
        self.assertEqual(dict(self.kinds(stand_with("of cid")))["c"], ("few", ()))
        self.alike(self.both(stand_with("with see box")), [(0, SEE_BOX)])
        self.assertEqual(sorted(self.kinds(stand_with("with check till"))), ["b", "x"])

    def test_atoms_that_bar_and_no_others(self):
        for text in ("2 (any; with see box; with check till)", "all (any; any)", "1 (any; with see box)", "all (1 (any; with see box); with check till)"):
            stand = stand_with(text)
            numbers, rule = [number for number, shows in self.both(stand)], read_rule(text)
            self.assertTrue(bars(rule, numbers))
            for number in numbers:
                self.assertFalse(bars(rule, [other for other in numbers if other != number]))

    def test_atoms_that_can_be_filled_are_none_of_them(self):
        stand = other_row(stand_with("all (with see box; any; with see van)"), "askings", "one", 6, (("dan", "w"),))
        stand = other_row(stand, "askings", "was", 8, ())
        for number, shows in self.both(stand):
            self.assertIn(number, (1, 2))
        self.assertIsNone(self.both(other(stand, rules=[("till", "pay", read_rule("1 (any; with see box; with see van)"))])))

    def test_of_one_that_is_not_open(self):
        for name in ("shut", "was", "none"):
            self.assertIsNone(lack_of(stand_with(), name))

    def test_the_askers_own(self):
        stand = stand_with("all (any; any)")
        told = copy.deepcopy(stand)
        lack = lack_of(stand, "one")
        again = copy.deepcopy(lack)
        for number, shows in lack:
            shows.clear()
        lack.clear()
        self.assertEqual(lack_of(stand, "one"), again)
        self.assertEqual(stand, told)

    def test_shows_of_two_atoms_are_no_one_list(self):
        lack = lack_of(stand_with("1 (any; any)"), "one")
        lack[0][1].clear()
        self.assertEqual(len(lack[1][1]), 7)


class IsLack(Lacks):
    def setUp(self):
        self.stand = stand_with()
        self.lets(True, self.stand, LACK)

    def test_an_asking_that_is_not_open(self):
        for name in ("shut", "was", "none"):
            self.told(False, is_lack(self.stand, name, LACK))
        for state in ("dropped", "done"):
            self.lets(False, other_row(self.stand, "askings", "one", 7, state), LACK)

    def test_rows_rising_each_once(self):
        stand = stand_with("1 (any; any; with see box)")
        right = [(0, SHOWS), (1, SHOWS), (2, SEE_BOX)]
        self.lets(True, stand, right)
        self.lets(False, stand, right[::-1], [right[1], right[0], right[2]], right + [right[2]], [right[0]] + right, [right[0], right[2], right[1]])

    def test_numbers_of_atoms(self):
        for number in (1, -1, 24, 10 ** 59):
            self.lets(False, self.stand, [(number, SHOWS)], sorted([(0, SHOWS), (number, SHOWS)]), sorted([(0, SHOWS), (number, [])]))

    def test_atoms_that_do_not_bar(self):
        self.lets(False, self.stand, [])
        stand = stand_with("2 (any; with see box; with check till)")
        self.lets(False, stand, [], [(0, SHOWS)], [(1, SEE_BOX)], [(2, CHECK)])
        self.lets(True, stand, [(0, SHOWS), (1, SEE_BOX)], [(0, SHOWS), (2, CHECK)], [(1, SEE_BOX), (2, CHECK)])

    def test_more_atoms_than_needed(self):
        stand = stand_with("2 (any; with see box; with check till)")
        self.lets(True, stand, [(0, SHOWS), (1, SEE_BOX), (2, CHECK)])
        self.lets(False, stand, [(0, SHOWS), (1, SEE_BOX), (2, [])], [(0, SHOWS), (1, []), (2, CHECK)])

    def test_shows_of_another_atom(self):
        stand = stand_with("all (any; with see box)")
        self.lets(True, stand, [(0, SHOWS)], [(1, SEE_BOX)])
        self.lets(False, stand, [(1, SHOWS)], [(0, SEE_BOX)])

    def test_each_leave_by_name_once(self):
        for at in range(len(SHOWS)):
            self.lets(False, self.stand, [(0, SHOWS[:at] + SHOWS[at + 1:])], [(0, SHOWS[:at] + SHOWS[at:at + 1] + SHOWS[at:])])
            self.lets(False, self.stand, [(0, SHOWS[at:] + SHOWS[:at])] if at else [(0, [])])
        for more in (("x", "barred", ("x",)), ("w", "few", ()), ("y", "few", ()), ("none", "ended", ()), ("zz", "ended", ())):
            self.lets(False, self.stand, [(0, sorted(SHOWS + [more]))], [(0, SHOWS + [more])])
        self.lets(False, self.stand, [(0, [("a",) + SHOWS[0][1:]] + SHOWS[1:])])

    def test_ended(self):
        for name in ("b", "c", "d", "e", "s", "up"):
            self.lets(False, self.stand, showing(name, "ended", ()))
        self.lets(False, self.stand, showing("z", "ended", ("z",)), showing("z", "few", ()), showing("z", "few", ("bob",)))
        self.lets(False, self.stand, showing("z", "barred", ()), showing("z", "barred", ("z",)), showing("z", "barred", ("b",)))

    def test_few(self):
        for told in ((), ("cid",), ("bob", "cid"), ("ann", "bob"), ("bob", "bob"), ("eve",)):
            self.lets(False, self.stand, showing("e", "few", told))
        self.lets(False, self.stand, showing("b", "few", ("ann",)), showing("s", "few", ("ann",)))

    def test_few_where_there_are_enough(self):
        self.lets(False, self.stand, showing("c", "few", ("bob",)), showing("c", "few", ()), showing("d", "few", ("bob", "cid")), showing("d", "few", ("bob",)))
        signs = self.stand[8][0][6] + (("cid", "e"),)
        enough = other_row(self.stand, "askings", "one", 6, signs)
        self.lets(False, enough, LACK, showing("e", "few", ("bob", "cid")))

    def test_few_of_one_that_is_not_usable_either(self):
        self.lets(True, self.stand, showing("b", "barred", ("b",)), showing("s", "barred", ("s",)), showing("b", "few", ()))

    def test_few_asks_for_freedom(self):
        busy = other_row(self.stand, "askings", "was", 8, ("bob",))
        self.lets(False, busy, LACK, showing("e", "few", ("bob",)))
        self.lets(True, busy, showing("e", "few", ()))

    def test_few_of_an_of(self):
        stand = stand_with("of cid,dan")
        self.lets(False, stand, LACK)
        self.lets(True, stand, [(0, [("e", "few", ()) if show[0] == "e" else show for show in SHOWS])])
        self.lets(True, stand, [(0, [(show[0], "few", ()) if show[0] in ("c", "e", "up") else show for show in SHOWS])])

    def test_a_cut_that_a_chain_gets_by(self):
        self.lets(False, self.stand, showing("d", "barred", ("b",)), showing("d", "barred", ("s",)), showing("d", "barred", ()), showing("c", "barred", ("s",)))
        self.lets(False, self.stand, showing("c", "barred", ()), showing("up", "barred", ("b",)), showing("up", "barred", ("b", "s")))

    def test_a_leave_in_the_cut_that_is_usable(self):
        self.lets(False, self.stand, showing("c", "barred", ("b", "c")), showing("c", "barred", ("c",)), showing("c", "barred", ("b", "e")))
        self.lets(False, self.stand, showing("e", "barred", ("e",)), showing("c", "barred", ("b", "w")))

    def test_others_may_be_among_them(self):
        self.lets(True, self.stand, showing("c", "barred", ("b", "s")), showing("c", "barred", ("b", "s", "up")), showing("up", "barred", ("b", "up", "x")))

    def test_a_leave_in_the_cut_that_does_not_stand(self):
        self.lets(False, self.stand, showing("c", "barred", ("b", "z")), showing("c", "barred", ("b", "none")), showing("c", "barred", ("ann", "b")))

    def test_a_cut_is_rising(self):
        self.lets(False, self.stand, showing("d", "barred", ("s", "b")), showing("c", "barred", ("b", "b")), showing("d", "barred", ("b", "s", "s")))

    def test_a_wrong_word(self):
        for name, word, told in SHOWS:
            for wrong in ("", "none", "Few", "open", "usable", "lacks"):
                self.lets(False, self.stand, showing(name, wrong, told))
        self.lets(False, self.stand, showing("c", "few", ("b",)), showing("e", "barred", ("bob",)), showing("e", "ended", ("bob",)))

    def test_room_for_the_amount(self):
        self.lets(False, other_row(self.stand, "askings", "one", 5, 29), LACK)
        self.lets(False, other_row(self.stand, "leaves", "b", 3, 2), LACK)
        self.lets(False, other(self.stand, now=6), LACK)

    def test_where_there_is_a_paper_no_lack_is_let_by(self):
        stand = other_row(self.stand, "leaves", "up", 1, read_terms("pay on till by 1 bob total 30"))
        self.assertIsNotNone(paper_of(stand, "one"))
        tries = [("ended", ()), ("few", ()), ("few", ("bob",)), ("barred", ()), ("barred", ("b",)), ("barred", ("up",)), ("barred", ("b", "s", "x"))]
        self.lets(False, stand, LACK, [], [(0, SHOWS[:-2] + SHOWS[-1:])], *[showing("up", *show) for show in tries])

    def test_other_kinds_of_rows(self):
        self.lets(False, self.stand, [(0, tuple(SHOWS))], [(0, SHOWS, ())], [(0,)], [(0, [show + ((),) for show in SHOWS])], tuple(LACK))
        for name, word, told in SHOWS:
            for wrong in ((name, word, told, ()), (name, word), (name,), (), [name, word, told], (name, word, list(told)), (name, word, None)):
                self.lets(False, self.stand, [(0, [wrong if show[0] == name else show for show in SHOWS])])
        self.lets(False, self.stand, showing("c", "few", None), showing("c", "barred", None), showing("c", "barred", 0), showing("c", "barred", "b"))


if __name__ == "__main__":
    unittest.main()
