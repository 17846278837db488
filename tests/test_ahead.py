"""[23] what some hands alone could bring about: just one of both, a row that does it or rows by which they never can."""

import copy
import unittest

from leavebook.ahead import could
from leavebook.nevers import is_never
from leavebook.puts import put_to, stand_behind
from leavebook.ruletexts import read_rule
from leavebook.termtexts import read_terms
from tests.made import asking, leave, other, other_row, stand_of
from tests.samples import Case, rightly_done

ALL = ["ann", "bob", "cid", "dan", "eve"]
PAY = ("pay", "till", "case", 30)


def stand_with(*leaves, rule=None, askings=(), **places):
    """A stand with ann the owner of the till and bob that of the box; bob and cid are the team, dan is the chief."""
    told = {
        "now": 5, "hands": ALL, "groups": [("team", "bob"), ("team", "cid")], "seats": [("chief", "dan", 9)],
        "things": [("box", "bob"), ("till", "ann")], "rules": [("till", "pay", read_rule(rule))] if rule else [],
        "aparts": [("till", ("check", "pay"))], "leaves": leaves, "askings": askings,
    }
    return stand_of(**{**told, **places})


def was(*signers, deed="check", case="case", name="was"):
    """A done asking for a deed that lies apart from pay."""
    return asking(name, deed=deed, case=case, state="done", signers=signers)


class Could(Case):
    def can(self, stand, some, asked=PAY):
        """The row by which some could; that they never can isn't let by."""
        before = copy.deepcopy((stand, some))
        told = could(stand, some, *asked)
        self.assertIs(type(told), tuple)
        word, row = told
        self.assertEqual(word, "can", row)
        self.assertTrue(rightly_done(stand, some, asked, row), row)
        for rows in ([], [(0, [])], could(stand, [], *asked)[1]):
            self.told(False, is_never(stand, some, *asked, rows))
        self.assertEqual((stand, some), before)
        return row

    def never(self, stand, some, asked=PAY):
        """The rows by which some never can."""
        before = copy.deepcopy((stand, some))
        told = could(stand, some, *asked)
        self.assertIs(type(told), tuple)
        word, rows = told
        self.assertEqual(word, "never", rows)
        self.told(True, is_never(stand, some, *asked, rows))
        self.assertEqual((stand, some), before)
        return rows

    def only(self, stand, right, asked=PAY):
        """Of all lists of hands, those could that have all hands of one of these; the others never."""
        for number in range(2 ** len(ALL)):
            some = [hand for at, hand in enumerate(ALL) if number >> at & 1]
            with self.subTest(some=some):
                (self.can if any(set(hands) <= set(some) for hands in right) else self.never)(stand, some, asked)


class Ways(Could):
    """By which leaves, for any."""

    def test_the_owner_gives(self):
        row = self.can(stand_with(), ["ann"])
        self.assertEqual([entry[0] for entry in row].count("give"), 1)
        self.only(stand_with(), [["ann"]])

    def test_the_owner_gives_to_another(self):
        # ann isn't free herself.
        stand = stand_with(askings=[was("ann")])
        self.only(stand, [["ann", hand] for hand in ALL[1:]])
        self.only(stand_with(askings=[was("ann", "bob", "cid")]), [["ann", "dan"], ["ann", "eve"]])
        self.only(stand_with(askings=[was(*ALL)]), [])

    def test_direct(self):
        row = self.can(stand_with(leave("a", "pay on till by 1 bob")), ["bob"])
        self.assertEqual([entry[0] for entry in row], ["ask", "sign", "do"])
        self.only(stand_with(leave("a", "pay on till by 1 bob")), [["ann"], ["bob"]])

    def test_direct_of_groups_and_offices(self):
        self.only(stand_with(leave("a", "pay on till by 2 +team,@chief")), [["ann"], ["bob", "cid"], ["bob", "dan"], ["cid", "dan"]])
        self.only(stand_with(leave("a", "pay on till by 1 @chief"), seats=[]), [["ann"]])
        self.only(stand_with(leave("a", "pay on till by 3 +team,eve,@chief"), seats=[]), [["ann"], ["bob", "cid", "eve"]])

    def test_for_another_deed_or_thing(self):
        leaves = [leave("a", "see on till by 1 bob pass 3"), leave("b", "pay on box by 1 cid pass 3")]
        self.only(stand_with(*leaves), [["ann"]])
        self.assertEqual(self.never(stand_with(*leaves), ["bob", "cid", "dan", "eve"]), [(0, [])])
        self.only(stand_with(*leaves), [["bob"], ["cid"]], ("pay", "box", "case", 30))

    def test_handed_on(self):
        # bob isn't free, but he may hand on.
        stand = stand_with(leave("a", "pay on till by 1 bob pass 1"), askings=[was("bob")])
        self.only(stand, [["ann"], ["bob", "cid"], ["bob", "dan"], ["bob", "eve"]])
        row = self.can(stand, ["bob", "eve"])
        self.assertEqual([entry[0] for entry in row], ["ask", "give", "sign", "do"])

    def test_not_to_be_handed_on(self):
        stand = stand_with(leave("a", "pay on till by 1 bob"), askings=[was("bob")])
        self.only(stand, [["ann"]])
        self.assertEqual(self.never(stand, ["bob", "eve"]), [(0, [("a", "few", ((), ("bob",)))])])

    def test_as_many_as_it_needs_hand_on(self):
        stand = stand_with(leave("a", "pay on till by 2 +team,@chief pass 1"), askings=[was("bob", "cid", "ann")])
        self.only(stand, [["ann", "dan"], ["ann", "eve"], ["bob", "dan"], ["cid", "dan"], ["bob", "cid", "eve"]])

    def test_handed_on_by_the_last_of_a_long_chain(self):
        names, leaves = "abcde", []
        for at, name in enumerate(names):
            leaves.append(leave(name, f"pay on till by 1 {'bob' if name == 'e' else 'dan'} most 4 total 90 from 2 to 9 pass {5 - at}", [names[at - 1]] if at else [""]))
        stand = stand_with(*leaves, askings=[was("bob", "dan")])
        row = self.can(stand, ["bob", "eve"])
        self.assertEqual(len(row[-1][2][2]), 6)
        self.only(stand, [["ann"], ["bob", "cid"], ["bob", "eve"], ["dan", "cid"], ["dan", "eve"]])

    def test_bounds_of_what_is_handed_on(self):
        for text in ("most 1", "total 30", "total 60", "from 5", "from 3 to 6", "most 2 total 31 from 5 to 6"):
            self.can(stand_with(leave("a", f"pay on till by 1 bob {text} pass 1"), askings=[was("bob")]), ["bob", "eve"])
        self.can(stand_with(leave("a", "pay on till by 1 bob most 3 total 60 pass 1", times=2, spent=30), askings=[was("bob")]), ["bob", "eve"])

    def test_a_leave_of_many_deeds(self):
        self.can(stand_with(leave("a", "check,do,pay,see on till by 1 bob pass 1"), askings=[was("bob")]), ["bob", "eve"])

    def test_of_two_leaves_one_is_enough(self):
        stand = stand_with(leave("a", "pay on till by 2 +team"), leave("b", "pay on till by 1 dan"), leave("c", "pay on till by 2 dan,eve pass 1"))
        self.only(stand, [["ann"], ["bob", "cid"], ["dan"]])


class Unusable(Could):
    """Leaves that are used up, not open, ended, or barred up the chain."""

    def test_used_up(self):
        for row in (leave("a", "pay on till by 1 bob most 2 pass 1", times=2), leave("a", "pay on till by 1 bob total 59 pass 1", spent=30)):
            self.only(stand_with(row), [["ann"]])
            self.assertEqual(self.never(stand_with(row), ["bob"]), [(0, [("a", "barred", ("a",))])])
        self.only(stand_with(leave("a", "pay on till by 1 bob most 2 total 60", times=1, spent=30)), [["ann"], ["bob"]])

    def test_not_open(self):
        for text in ("from 6", "to 5", "from 2 to 5", "from 9 to 12"):
            self.only(stand_with(leave("a", f"pay on till by 1 bob {text} pass 2")), [["ann"]])
        for text in ("from 5", "to 6", "from 5 to 6"):
            self.only(stand_with(leave("a", f"pay on till by 1 bob {text} pass 2")), [["ann"], ["bob"]])

    def test_ended(self):
        stand = stand_with(leave("a", "pay on till by 1 bob pass 2", []))
        self.only(stand, [["ann"]])
        self.assertEqual(self.never(stand, ["bob"]), [(0, [("a", "ended", ())])])

    def test_barred_up_the_chain(self):
        stand = stand_with(
            leave("a", "pay on till by 1 dan most 1 pass 3", times=1), leave("b", "pay on till by 1 bob most 1 pass 2", ["a"]),
            leave("c", "pay on till by 1 cid most 1 pass 1", ["b"]),
        )
        self.only(stand, [["ann"]])
        rows = self.never(stand, ["bob", "cid", "dan", "eve"])
        self.assertEqual([show[1] for show in rows[0][1]], ["barred", "barred", "barred"])
        self.only(other_row(stand, "leaves", "a", 3, 0), [["ann"], ["bob"], ["cid"], ["dan"]])

    def test_barred_in_the_middle(self):
        # dan, who holds what is above, gives anew or takes away what bars.
        stand = stand_with(
            leave("a", "pay on till by 1 dan pass 3"), leave("b", "pay on till by 1 bob most 1 pass 2", ["a"], times=1),
            leave("c", "pay on till by 1 cid most 1 pass 1", ["b"]),
        )
        self.only(stand, [["ann"], ["dan"]])
        passed = put_to(stand, ("take", ("dan",), "b", "a", "pass"))
        self.only(passed, [["ann"], ["cid"], ["dan"]])

    def test_a_way_round_what_bars(self):
        stand = stand_with(
            leave("a", "pay on till by 1 dan most 1 pass 3", times=1), leave("b", "pay on till by 1 eve pass 3"),
            leave("c", "pay on till by 1 cid most 1 pass 1", ["a", "b"]),
        )
        self.only(stand, [["ann"], ["cid"], ["eve"]])
        self.only(other_row(stand, "leaves", "c", 2, ("a",)), [["ann"], ["eve"]])

    def test_backed_by_those_who_may(self):
        # eve may back c, but then she may as well give; both are by what is open.
        stand = stand_with(
            leave("a", "pay on till by 1 dan from 6 pass 3"), leave("b", "pay on till by 2 bob,eve pass 3"),
            leave("c", "pay on till by 1 cid from 6 pass 1", ["a"]),
        )
        self.only(stand, [["ann"], ["bob", "eve"]])


class Rules(Could):
    def test_of(self):
        stand = stand_with(leave("a", "pay on till by 1 bob,cid"), rule="of +team,@chief")
        self.only(stand, [["ann", "bob"], ["ann", "cid"], ["ann", "dan"], ["bob"], ["cid"]])
        self.only(other(stand, seats=[]), [["ann", "bob"], ["ann", "cid"], ["bob"], ["cid"]])
        self.only(stand_with(leave("a", "pay on till by 1 bob,cid"), rule="of eve"), [["ann", "eve"]])

    def test_of_handed_on(self):
        stand = stand_with(leave("a", "pay on till by 2 bob,dan pass 1"), rule="of eve")
        self.only(stand, [["ann", "eve"], ["bob", "dan", "eve"]])
        self.only(other_row(stand, "leaves", "a", 1, read_terms("pay on till by 2 bob,dan")), [["ann", "eve"]])

    def test_of_those_who_are_not_free(self):
        stand = stand_with(leave("a", "pay on till by 1 bob,cid pass 1"), rule="of +team", askings=[was("bob")])
        self.only(stand, [["ann", "cid"], ["cid"], ["bob", "cid"]])

    def test_of_whom_no_hand_is(self):
        self.only(stand_with(leave("a", "pay on till by 1 bob pass 1"), rule="of +none,zoe,@none"), [])

    def test_with(self):
        # bob is the owner of the box.
        stand = stand_with(leave("a", "see on box by 1 dan"), rule="with see box")
        self.only(stand, [["bob"], ["dan"]])
        self.only(stand_with(leave("a", "see on box by 1 dan pass 1"), rule="with see box", askings=[was("bob", "dan")]),
                  [["bob", "ann"], ["bob", "cid"], ["bob", "eve"], ["dan", "ann"], ["dan", "cid"], ["dan", "eve"]])

    def test_with_a_thing_that_is_not_there(self):
        stand = stand_with(leave("a", "pay on till by 1 bob"), rule="with see van")
        self.only(stand, [])
        self.assertEqual(self.never(stand, ALL), [(0, [])])

    def test_with_needs_hands_free_for_what_is_asked(self):
        aparts = [("box", ("check", "see")), ("till", ("check", "pay"))]
        stand = stand_with(leave("a", "see on box by 1 dan"), rule="with see box", aparts=aparts)
        elsewhere = asking("was", deed="check", thing="box", state="done", signers=["dan"])
        self.only(other(stand, askings=[elsewhere]), [["bob"], ["dan"]])
        self.only(other(stand, askings=[was("dan")]), [["bob"]])

    def test_all_of_some(self):
        stand = stand_with(leave("a", "pay on till by 1 dan"), leave("b", "see on box by 1 eve"), rule="all (any; with see box)")
        self.only(stand, [["ann", "bob"], ["ann", "eve"], ["dan", "bob"], ["dan", "eve"]])
        self.assertEqual(self.never(stand, ["dan"]), [(1, [("b", "few", ((), ()))])])
        self.assertEqual(self.never(stand, ["eve"]), [(0, [("a", "few", ((), ()))])])

    def test_one_of_some(self):
        stand = stand_with(leave("a", "pay on till by 1 dan"), leave("b", "see on box by 1 eve"), rule="1 (of dan; with see box)")
        self.only(stand, [["bob"], ["dan"], ["eve"]])
        self.assertEqual([row[0] for row in self.never(stand, ["ann", "cid"])], [0, 1])

    def test_somes_in_somes(self):
        rule = "2 (of bob; all (of cid; of dan); 1 (with see box; of eve))"
        self.only(stand_with(leave("a", "pay on till by 1 +team,dan,eve"), rule=rule), [["bob"], ["cid", "dan", "eve"]])

    def test_two_atoms_by_one_leave(self):
        stand = stand_with(leave("a", "pay on till by 2 +team most 1"), rule="all (any; any; of bob,cid)")
        row = self.can(stand, ["bob", "cid"])
        self.assertEqual([entry[0] for entry in row], ["ask", "sign", "sign", "do"])

    def test_one_hand_for_many_new_leaves(self):
        stand = stand_with(leave("a", "pay on till by 1 bob most 1 pass 1"), rule="all (any; any; with see box; of cid)")
        self.only(stand, [["bob", "cid"]])
        self.can(stand_with(rule="all (all (any; any; any; any; any); all (any; any; any; any; any); all (any; any; any; any; any); any)"), ["ann"])

    def test_the_widest_rule(self):
        whos = ["of ann", "of bob", "of cid", "of dan", "of eve"]
        rule = "all (" + "; ".join(["all (" + "; ".join(whos) + ")"] * 3) + "; with see box)"
        self.only(stand_with(rule=rule), [ALL])

    def test_the_rule_of_another_deed(self):
        stand = stand_with(leave("a", "pay,see on till by 1 bob"), rule="of eve")
        self.only(stand, [["ann"], ["bob"]], ("see", "till", "case", 30))


class Short(Could):
    """No entries that aren't needed."""

    def words(self, stand, some):
        return [entry[0] for entry in self.can(stand, some)]

    def test_signed_where_a_leave_is_there(self):
        leaves = [leave("a", "pay on till by 1 bob pass 1"), leave("b", "pay on till by 1 cid pass 1"), leave("c", "pay on till by 1 dan")]
        stand = stand_with(*leaves, askings=[was("bob")])
        self.assertEqual(self.words(stand, ["bob", "cid"]), ["ask", "sign", "do"])
        self.assertEqual(self.words(stand, ["ann", "dan"]), ["ask", "sign", "do"])
        self.assertEqual(self.words(stand, ["bob", "eve"]), ["ask", "give", "sign", "do"])

    def test_one_new_leave_for_many_atoms(self):
        self.assertEqual(self.words(stand_with(rule="all (any; any; of ann,bob)"), ["ann"]), ["ask", "give", "sign", "do"])
        self.assertEqual(self.words(stand_with(rule="all (of ann; of bob; any)"), ["ann", "bob"]), ["ask", "give", "sign", "give", "sign", "do"])
        self.assertEqual(self.words(stand_with(rule="all (any; with pay till; with see till)"), ["ann"]), ["ask", "give", "sign", "give", "sign", "do"])

    def test_one_new_leave_by_each_parent(self):
        stand = stand_with(leave("a", "pay on till by 1 ann pass 1"), leave("b", "see on box by 1 ann pass 1"), rule="all (any; with see box; any)", askings=[was("ann")])
        self.assertEqual(self.words(stand, ["ann", "eve"]), ["ask", "give", "sign", "give", "sign", "do"])

    def test_no_more_atoms_than_the_rule_wants(self):
        self.assertEqual(self.words(stand_with(rule="1 (of ann; of bob; of cid)"), ["ann", "bob", "cid"]), ["ask", "give", "sign", "do"])
        self.assertEqual(self.words(stand_with(rule="2 (of ann; all (of bob; of zoe); of cid; of bob)"), ["ann", "bob", "cid"]), ["ask", "give", "sign", "give", "sign", "do"])


class Freedom(Could):
    def test_case_thing_and_deed(self):
        held = leave("a", "check,pay,see on till by 1 bob")
        for done in (was("bob", case="else"), was("bob", deed="see"), was("bob", deed="pay"), was("cid")):
            self.only(stand_with(held, askings=[done]), [["ann"], ["bob"]])
        self.only(stand_with(held, askings=[was("bob")]), [["ann"]])
        self.only(stand_with(held, askings=[was("bob")], aparts=[]), [["ann"], ["bob"]])
        self.only(stand_with(held, askings=[was("bob")]), [["ann"], ["bob"]], ("see", "till", "case", 30))
        self.only(stand_with(held, askings=[was("bob")]), [["ann"], ["bob"]], ("pay", "till", "other", 30))
        self.only(stand_with(held, askings=[was("bob", deed="pay")]), [["ann"]], ("check", "till", "case", 30))

    def test_direct_and_able(self):
        stand = stand_with(leave("a", "pay on till by 2 bob,cid,dan"), askings=[was("bob", "eve")])
        self.only(stand, [["ann"], ["cid", "dan"]])
        self.assertEqual(self.never(stand, ["bob", "cid", "eve"]), [(0, [("a", "few", (("cid",), ("bob", "cid")))])])


class Askings(Could):
    def test_those_that_are_there_already(self):
        # What was asked before is no help, signed or not; its names aren't taken again.
        names = [first + second for first in "ab" for second in ["", *"abcdefgh"]][:19]
        signed = [asking(name, "bob", amount=30, signs=[("bob", "a"), ("cid", "a")]) for name in names]
        stand = stand_with(leave("a", "pay on till by 2 +team"), askings=[*signed, was("eve")])
        row = self.can(stand, ["bob", "cid"])
        self.assertNotIn(row[0][1], names)
        self.never(stand, ["bob"])
        self.only(stand, [["ann"], ["bob", "cid"]])

    def test_names_of_leaves_are_not_taken_again(self):
        leaves = [leave(name, "see on till by 1 bob", [] if name < "f" else [""]) for name in "abcdefghijkl"]
        for entry in self.can(stand_with(*leaves), ["ann"]):
            self.assertFalse(entry[0] == "give" and entry[1] in "abcdefghijkl")

    def test_all_the_short_names_taken(self):
        letters = "abcdefghijklmnopqrstuvwxyz"
        leaves = [leave(name, "see on till by 1 bob") for name in letters]
        self.can(stand_with(*leaves, askings=[asking(name) for name in letters]), ["ann"])

    def test_dropped_ones(self):
        stand = stand_with(leave("a", "pay on till by 1 bob"), askings=[asking("shut", state="dropped", signs=[("bob", "a")])])
        self.only(stand, [["ann"], ["bob"]])


class Edges(Could):
    def test_no_hands(self):
        for stand in (stand_with(), stand_with(leave("a", "pay on till by 1 bob")), stand_with(rule="1 (any; of bob; with see van)")):
            self.never(stand, [])

    def test_a_thing_that_is_not_there(self):
        for some in ([], ["ann"], ALL):
            self.alike(could(stand_with(leave("a", "pay on till by 1 bob")), some, "pay", "van", "case", 0), ("never", []))
            self.told(True, is_never(stand_with(), some, "pay", "van", "case", 0, []))

    def test_amounts(self):
        stand = stand_with(leave("a", "pay on till by 1 bob total 30"))
        for amount in (0, 30):
            self.can(stand, ["bob"], ("pay", "till", "case", amount))
        for amount in (31, 10 ** 59):
            self.never(stand, ["bob"], ("pay", "till", "case", amount))
        self.can(stand, ["ann"], ("pay", "till", "case", 10 ** 59))

    def test_a_new_deed_and_a_new_case(self):
        self.only(stand_with(leave("a", "pay on till by 1 bob pass 5")), [["ann"]], ("new", "till", "new", 0))

    def test_of_the_first_stand(self):
        self.alike(could(stand_behind([]), [], "pay", "till", "case", 0), ("never", []))

    def test_the_told_row_is_the_askers_own(self):
        stand = stand_with(leave("a", "pay on till by 1 bob"))
        for some in (["bob"], ["cid"]):
            word, told = could(stand, some, *PAY)
            again = copy.deepcopy(told)
            told.clear()
            some.append("eve")
            self.assertEqual(could(stand, some[:1], *PAY), (word, again))

    def test_told_shows_are_no_one_list(self):
        word, rows = could(stand_with(leave("a", "pay on till by 1 bob"), rule="1 (any; any)"), ["eve"], *PAY)
        rows[0][1].clear()
        self.assertEqual(rows[1][1], [("a", "few", ((), ()))])

    def test_behind_a_told_row(self):
        # The row may be put to the stand, and looked ahead from there.
        stand = stand_with(leave("a", "pay on till by 1 bob most 1 pass 1"), askings=[was("bob")])
        for entry in self.can(stand, ["bob", "eve"]):
            stand = put_to(stand, entry)
        self.only(stand, [["ann"]])


if __name__ == "__main__":
    unittest.main()
