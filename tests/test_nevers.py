"""[23] rows by which hands never can, right and with just one condition broken."""

import copy
import unittest

from leavebook.ahead import could
from leavebook.nevers import is_never
from leavebook.ruletexts import read_rule
from leavebook.termtexts import read_terms
from tests.made import leave, other, other_row
from tests.samples import Case
from tests.test_ahead import ALL, stand_with, was

SOME = ["bob", "cid", "eve"]

# What bob, cid and eve never do: pay 30 from the till. up is used up, b and s bar c and d (s is closed), e has too few,
# f too few that are free, g two that aren't free and are free to hand on nothing, z has ended; w is for another thing.
LEAVES = [
    leave("b", "check,pay on till by 1 bob most 3 pass 3", times=3),
    leave("c", "pay on till by 1 bob most 3 pass 2", ["b"]),
    leave("d", "pay on till by 1 +team most 3", ["b", "s"]),
    leave("e", "pay on till by 3 +team,dan pass 2"),
    leave("f", "pay on till by 2 bob,cid,eve"),
    leave("s", "pay on till by 1 eve from 6 pass 3"),
    leave("up", "pay on till by 1 eve total 29 pass 1"),
    leave("w", "see on box by 1 dan"),
    leave("z", "pay on till by 1 eve pass 1", []),
]
SHOWS = [
    ("b", "barred", ("b",)), ("c", "barred", ("b",)), ("d", "barred", ("b", "s")), ("e", "few", (("bob",), ("bob", "cid"))),
    ("f", "few", (("bob",), ("bob", "cid", "eve"))), ("s", "barred", ("s",)), ("up", "barred", ("up",)), ("z", "ended", ()),
]
ROWS = [(0, SHOWS)]
SEE_BOX = [("w", "few", ((), ()))]


def never_stand(rule=None, **places):
    """The stand with these leaves, where only bob of bob, cid and eve is free; dan is the owner of the box."""
    things = [("box", "dan"), ("till", "ann")]
    return stand_with(*LEAVES, rule=rule, **{"askings": [was("cid", "eve")], "things": things, **places})


def showing(name, word, told):
    """The rows with another show of a leave."""
    return [(0, [(name, word, told) if show[0] == name else show for show in SHOWS])]


def terms(stand, name, text):
    """The stand with other terms of a leave."""
    return other_row(stand, "leaves", name, 1, read_terms(text))


class Nevers(Case):
    def lets(self, truth, stand, *tries, some=SOME, asked=("pay", "till", "case", 30)):
        for rows in tries:
            with self.subTest(rows=rows):
                before = copy.deepcopy((stand, some, rows))
                self.told(truth, is_never(stand, some, *asked, rows))
                self.assertEqual((stand, some, rows), before)

    def setUp(self):
        self.stand = never_stand()
        self.lets(True, self.stand, ROWS)


class Rows(Nevers):
    def test_told(self):
        self.alike(could(self.stand, SOME, "pay", "till", "case", 30), ("never", ROWS))

    def test_rising_each_once(self):
        stand = never_stand("1 (any; any; with see box)")
        right = [(0, SHOWS), (1, SHOWS), (2, SEE_BOX)]
        self.lets(True, stand, right)
        self.lets(False, stand, right[::-1], [right[1], right[0], right[2]], right + [right[2]], [right[0]] + right, [right[0], right[2], right[1]])

    def test_atoms_that_do_not_bar(self):
        self.lets(False, self.stand, [])
        self.lets(False, never_stand("1 (any; with see box)"), [], [(0, SHOWS)], [(1, SEE_BOX)])
        stand = never_stand("2 (any; with see box; with see van)")
        self.lets(False, stand, [], [(0, SHOWS)], [(1, SEE_BOX)], [(2, [])])
        self.lets(True, stand, [(0, SHOWS), (1, SEE_BOX)], [(0, SHOWS), (2, [])], [(1, SEE_BOX), (2, [])], [(0, SHOWS), (1, SEE_BOX), (2, [])])

    def test_more_atoms_than_needed(self):
        stand = never_stand("all (any; with see box)")
        self.lets(True, stand, [(0, SHOWS)], [(1, SEE_BOX)], [(0, SHOWS), (1, SEE_BOX)])
        self.lets(False, stand, [(0, SHOWS), (1, [])], [(0, []), (1, SEE_BOX)], [(1, SHOWS)], [(0, SEE_BOX)])

    def test_numbers_of_atoms(self):
        for number in (1, -1, 24, 10 ** 59):
            self.lets(False, self.stand, [(number, SHOWS)], sorted([(0, SHOWS), (number, SHOWS)]), sorted([(0, SHOWS), (number, [])]))

    def test_each_leave_by_name_once(self):
        for at in range(len(SHOWS)):
            self.lets(False, self.stand, [(0, SHOWS[:at] + SHOWS[at + 1:])], [(0, SHOWS[:at] + SHOWS[at:at + 1] + SHOWS[at:])])
            self.lets(False, self.stand, [(0, SHOWS[at:] + SHOWS[:at])] if at else [(0, [])])
        for more in (("w", "few", ((), ())), ("none", "ended", ()), ("zz", "ended", ()), ("a", "ended", ())):
            self.lets(False, self.stand, [(0, sorted(SHOWS + [more], key=lambda show: show[0]))], [(0, SHOWS + [more])])
        self.lets(False, self.stand, [(0, [("a",) + SHOWS[0][1:]] + SHOWS[1:])])

    def test_a_wrong_word(self):
        for name, word, told in SHOWS:
            for wrong in ("", "none", "Few", "open", "lacks"):
                self.lets(False, self.stand, showing(name, wrong, told))
            for wrong in {"ended", "few", "barred"} - {word}:
                self.lets(False, self.stand, showing(name, wrong, told))

    def test_other_kinds_of_rows(self):
        self.lets(False, self.stand, [(0, tuple(SHOWS))], [(0, SHOWS, ())], [(0,)], [(0, [show + ((),) for show in SHOWS])], tuple(ROWS))
        for name, word, told in SHOWS:
            for wrong in ((name, word, told, ()), (name, word), (name,), (), [name, word, told], (name, word, list(told)), (name, word, None)):
                self.lets(False, self.stand, [(0, [wrong if show[0] == name else show for show in SHOWS])])
        self.lets(False, self.stand, showing("c", "few", None), showing("c", "barred", None), showing("c", "barred", 0), showing("c", "barred", ((), ("b",))))

    def test_a_thing_that_is_not_there(self):
        asked = ("pay", "van", "case", 30)
        for some in ([], SOME, ALL):
            self.lets(True, self.stand, [], some=some, asked=asked)
            self.lets(False, self.stand, ROWS, [(0, [])], [(0, SHOWS)], [(1, [])], some=some, asked=asked)

    def test_another_deed_case_or_amount(self):
        self.lets(False, self.stand, ROWS, asked=("see", "till", "case", 30))
        self.lets(True, self.stand, [(0, [])], asked=("see", "till", "case", 30))
        self.lets(False, self.stand, ROWS, asked=("pay", "till", "other", 30))
        self.lets(False, self.stand, ROWS, asked=("pay", "till", "case", 29))
        self.lets(True, self.stand, ROWS, asked=("pay", "till", "case", 10 ** 59))


class Few(Nevers):
    def test_direct_with_a_hand_more_or_fewer(self):
        able = ("bob", "cid")
        for direct in ((), ("cid",), ("bob", "cid"), ("bob", "eve"), ("dan",), ("bob", "bob")):
            self.lets(False, self.stand, showing("e", "few", (direct, able)))

    def test_able_with_a_hand_more_or_fewer(self):
        for able in ((), ("bob",), ("cid",), ("bob", "cid", "dan"), ("bob", "cid", "eve"), ("cid", "bob"), ("bob", "bob", "cid")):
            self.lets(False, self.stand, showing("e", "few", (("bob",), able)))

    def test_of_another_form(self):
        right = (("bob",), ("bob", "cid"))
        self.lets(True, self.stand, showing("e", "few", right))
        self.lets(False, self.stand, *[showing("e", "few", told) for told in ((), right[:1], right[::-1], right + ((),), ("bob", "cid"), ("bob",), (right,))])

    def test_enough_direct_hands(self):
        # Not even where few are told rightly.
        enough = terms(self.stand, "f", "pay on till by 1 bob,cid,eve")
        self.lets(False, enough, ROWS, showing("f", "ended", ()), showing("f", "barred", ()))
        free = other(self.stand, askings=[was("cid")])
        direct = showing("f", "few", (("bob", "eve"), ("bob", "cid", "eve")))
        self.lets(False, free, ROWS, direct)
        self.lets(True, terms(free, "f", "pay on till by 3 bob,cid,eve"), direct)

    def test_enough_able_hands_that_hand_on(self):
        self.lets(False, terms(self.stand, "f", "pay on till by 2 bob,cid,eve pass 1"), ROWS)
        self.lets(False, terms(self.stand, "f", "pay on till by 3 bob,cid,eve pass 5"), ROWS)
        self.lets(True, terms(self.stand, "f", "pay on till by 4 bob,cid,eve pass 1"), ROWS)
        self.lets(True, terms(self.stand, "f", "pay on till by 3 bob,cid,eve"), ROWS)

    def test_enough_able_hands_but_none_free(self):
        stand = other(terms(self.stand, "f", "pay on till by 2 bob,cid,eve pass 1"), askings=[was("bob", "cid", "eve")])
        none = [(0, [(name, word, ((), told[1]) if word == "few" else told) for name, word, told in SHOWS])]
        self.lets(True, stand, none)
        self.lets(False, stand, ROWS)
        self.lets(False, other(stand, askings=[was("bob", "cid")]), none)

    def test_one_free_hand_that_is_none_of_its_who(self):
        # eve and cid hand f on to bob, who is free.
        stand = terms(self.stand, "f", "pay on till by 2 cid,eve pass 1")
        rows = showing("f", "few", ((), ("cid", "eve")))
        self.lets(False, stand, rows)
        self.lets(True, terms(stand, "f", "pay on till by 2 cid,eve"), rows)
        self.lets(True, stand, [(0, [(show[0], "few", ((), ("cid",))) if show[0] == "e" else show for show in rows[0][1]])], some=["cid", "eve"])

    def test_few_of_one_that_is_barred_too(self):
        stand = terms(self.stand, "b", "check,pay on till by 2 bob most 3 pass 3")
        self.lets(True, stand, ROWS, showing("b", "few", (("bob",), ("bob",))))
        self.lets(False, self.stand, showing("b", "few", (("bob",), ("bob",))))

    def test_few_of_one_that_ended(self):
        self.lets(False, self.stand, showing("z", "few", ((), ("eve",))), showing("z", "few", ((), ())))

    def test_of(self):
        # Only cid is meant, who isn't free: so none is both.
        stand = never_stand("of cid,dan")
        shows = [("e", (), ("bob", "cid")), ("f", (), ("bob", "cid", "eve"))]
        rows = [(0, [dict((name, (name, "few", (direct, able))) for name, direct, able in shows).get(show[0], show) for show in SHOWS])]
        self.lets(True, stand, rows)
        self.lets(False, stand, ROWS)
        self.lets(True, terms(stand, "f", "pay on till by 1 bob,cid,eve pass 1"), rows)
        self.lets(False, other(terms(stand, "f", "pay on till by 1 bob,cid,eve pass 1"), askings=[was("eve")]), rows)
        self.lets(True, other(terms(stand, "f", "pay on till by 1 bob,eve pass 1"), rules=[("till", "pay", read_rule("of dan"))]),
                  [(0, [show if show[0] != "f" else ("f", "few", ((), ("bob", "eve"))) for show in rows[0][1]])])

    def test_with_no_hands(self):
        none = [(0, [show if show[1] == "ended" else (show[0], "few", ((), ())) for show in SHOWS])]
        self.lets(True, self.stand, none, some=[])
        self.lets(False, self.stand, ROWS, some=[])
        self.lets(False, self.stand, none)


class Owner(Nevers):
    def test_the_owner_among_some(self):
        self.lets(False, other(self.stand, things=[("box", "dan"), ("till", "bob")]), ROWS)
        self.lets(True, other(self.stand, things=[("box", "bob"), ("till", "dan")]), ROWS)
        self.lets(False, other(self.stand, things=[("box", "dan"), ("till", "eve")]), ROWS)

    def test_the_owner_where_none_is_free(self):
        stand = other(self.stand, things=[("box", "dan"), ("till", "bob")], askings=[was("bob", "cid", "eve")])
        none = [(0, [(name, word, ((), told[1]) if word == "few" else told) for name, word, told in SHOWS])]
        self.lets(True, stand, none)
        self.lets(False, other(stand, askings=[was("cid", "eve")]), none, ROWS)

    def test_the_owner_where_none_is_of_the_who(self):
        stand = other(never_stand("of dan"), things=[("box", "dan"), ("till", "bob")])
        rows = [(0, [(name, word, ((), told[1]) if word == "few" else told) for name, word, told in SHOWS])]
        self.lets(True, stand, rows)
        self.lets(False, other(stand, rules=[("till", "pay", read_rule("of bob"))]), rows, ROWS)

    def test_the_owner_of_a_withs_own_thing(self):
        stand = never_stand("with see box")
        self.lets(True, stand, [(0, SEE_BOX)])
        self.lets(True, other(stand, things=[("box", "dan"), ("till", "bob")]), [(0, SEE_BOX)])
        self.lets(False, other(stand, things=[("box", "bob"), ("till", "ann")]), [(0, SEE_BOX)])
        self.lets(True, never_stand("with see van"), [(0, [])])
        self.lets(True, never_stand("with see van"), [(0, [])], some=ALL)

    def test_the_owner_for_one_atom_only(self):
        stand = other(never_stand("all (any; with see box)"), things=[("box", "dan"), ("till", "bob")])
        self.lets(True, stand, [(1, SEE_BOX)])
        self.lets(False, stand, [(0, SHOWS)], [(0, SHOWS), (1, SEE_BOX)])


class Barred(Nevers):
    def test_a_cut_that_a_chain_gets_by(self):
        self.lets(False, self.stand, showing("d", "barred", ("b",)), showing("d", "barred", ("s",)), showing("d", "barred", ()))
        self.lets(False, self.stand, showing("c", "barred", ()), showing("c", "barred", ("s",)), showing("up", "barred", ("b", "s")))

    def test_a_cut_with_a_usable_leave(self):
        self.lets(False, self.stand, showing("c", "barred", ("b", "c")), showing("c", "barred", ("c",)), showing("c", "barred", ("b", "e")))
        self.lets(False, self.stand, showing("e", "barred", ("e",)), showing("f", "barred", ("f",)))

    def test_a_cut_with_others(self):
        self.lets(True, self.stand, showing("c", "barred", ("b", "s")), showing("up", "barred", ("b", "s", "up")))

    def test_a_cut_with_one_that_does_not_stand(self):
        self.lets(False, self.stand, showing("c", "barred", ("b", "z")), showing("c", "barred", ("b", "none")))

    def test_a_cut_is_rising(self):
        self.lets(False, self.stand, showing("d", "barred", ("s", "b")), showing("c", "barred", ("b", "b")))

    def test_what_is_usable_again(self):
        self.lets(False, other_row(self.stand, "leaves", "b", 3, 2), ROWS)
        self.lets(False, other(self.stand, now=6), ROWS)
        self.lets(False, terms(self.stand, "up", "pay on till by 1 eve total 30 pass 1"), ROWS)

    def test_ended(self):
        for name in ("b", "c", "d", "e", "f", "s", "up"):
            self.lets(False, self.stand, showing(name, "ended", ()))
        self.lets(False, self.stand, showing("z", "ended", ("z",)), showing("z", "ended", ((), ())), showing("z", "barred", ()), showing("z", "barred", ("b",)))
        self.lets(False, other_row(self.stand, "leaves", "z", 2, ("",)), ROWS)
        self.lets(False, other_row(self.stand, "leaves", "up", 2, ()), ROWS)


class Can(Nevers):
    def test_no_rows_where_they_can(self):
        stand = other_row(self.stand, "leaves", "b", 3, 2)
        self.assertEqual(could(stand, SOME, "pay", "till", "case", 30)[0], "can")
        for name in ("b", "c", "d"):
            for told in (("ended", ()), ("few", ((), ())), ("few", (("bob",), ("bob",))), ("barred", ()), ("barred", ("b",)), ("barred", ("b", "s")), ("barred", ("s",))):
                self.lets(False, stand, showing(name, *told))
        self.lets(False, stand, [], [(0, [])], ROWS, [(0, SHOWS[3:])])


if __name__ == "__main__":
    unittest.main()
