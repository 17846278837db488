"""[17] chains; [16] which leaves a take with fall ends."""

import copy
import unittest

from leavebook.chains import chain_of, chains_of, hanging_on
from tests.made import leave, stand_of
from tests.samples import Case


def web(**parents):
    """A stand of leaves with these parents, told as words, `*` for the owner, none for an ended one."""
    rows = []
    for name, text in parents.items():
        told = sorted("" if word == "*" else word for word in text.split())
        rows.append(leave(name, "pay on till by 1 ann", told))
    return stand_of(hands=["ann"], things=[("till", "ann")], leaves=rows)


LINE = web(a="*", b="a", c="b")
MIXED = web(a="*", b="* a", c="a b", d="b c", gone="")
# Six one behind the other, by two ways at each.
LADDER = web(a="*", b="*", c="a b", d="a b", e="c d", f="c d", g="e f", h="e f", i="g h", j="g h", k="i j", l="i j")


def chains_again(stand, name):
    """All tuples of leaves that are chains, told from the owner down."""
    parents = {row[0]: row[2] for row in stand[7]}
    growing = [(top,) for top in parents if "" in parents[top]]
    found = []
    while growing:
        chain = growing.pop()
        if chain[0] == name:
            found.append(chain)
        growing.extend((below,) + chain for below in parents if chain[0] in parents[below])
    return sorted(found)


def hanging_again(stand, name, parent):
    """The leaves that had a chain and have none when the one parent isn't there."""
    rows = [row[:2] + (tuple(p for p in row[2] if (row[0], p) != (name, parent)),) + row[3:] for row in stand[7]]
    behind = stand[:7] + (tuple(rows),) + stand[8:]
    return [row[0] for row in rows if chains_again(stand, row[0]) and not chains_again(behind, row[0])]


class Chains(Case):
    def test_one_parent(self):
        self.alike(chains_of(LINE, "a"), [("a",)])
        self.alike(chains_of(LINE, "b"), [("b", "a")])
        self.alike(chains_of(LINE, "c"), [("c", "b", "a")])

    def test_more_parents_and_the_owner_among_them(self):
        self.alike(chains_of(MIXED, "b"), [("b",), ("b", "a")])
        self.alike(chains_of(MIXED, "c"), [("c", "a"), ("c", "b"), ("c", "b", "a")])
        self.alike(chains_of(MIXED, "d"), [("d", "b"), ("d", "b", "a"), ("d", "c", "a"), ("d", "c", "b"), ("d", "c", "b", "a")])

    def test_sorted_as_tuples_compare(self):
        stand = web(z="*", y="*", b="z", c="y", a="b c z")
        self.alike(chains_of(stand, "a"), [("a", "b", "z"), ("a", "c", "y"), ("a", "z")])

    def test_what_does_not_stand(self):
        for name in ("gone", "none", "till"):
            self.alike(chains_of(MIXED, name), [])
            self.assertIsNone(chain_of(MIXED, name))
        self.alike(chains_of(stand_of(), "a"), [])

    def test_many(self):
        told = chains_of(LADDER, "l")
        self.assertEqual(len(told), 32)
        self.assertEqual({len(chain) for chain in told}, {6})
        for name in "abcdefghijkl":
            self.alike(chains_of(LADDER, name), chains_again(LADDER, name))

    def test_the_askers_own(self):
        stand = copy.deepcopy(MIXED)
        chains_of(stand, "d").clear()
        self.assertEqual(len(chains_of(stand, "d")), 5)
        self.assertEqual(stand, MIXED)


class ChainOf(Case):
    def test_one(self):
        self.alike(chain_of(LINE, "a"), ("a",))
        self.alike(chain_of(LINE, "c"), ("c", "b", "a"))

    def test_shortest_ahead_of_first(self):
        self.alike(chain_of(MIXED, "b"), ("b",))
        self.alike(chain_of(web(a="* z", z="*"), "a"), ("a",))
        self.alike(chain_of(web(z="*", b="z", a="b z"), "a"), ("a", "z"))

    def test_first_of_two_shortest(self):
        self.alike(chain_of(MIXED, "c"), ("c", "a"))
        self.alike(chain_of(web(x="*", y="*", p="y", q="x", a="p q"), "a"), ("a", "p", "y"))
        self.alike(chain_of(LADDER, "k"), ("k", "i", "g", "e", "c", "a"))


class HangingOn(Case):
    def test_a_line(self):
        self.alike(hanging_on(LINE, "a", ""), ["a", "b", "c"])
        self.alike(hanging_on(LINE, "b", "a"), ["b", "c"])
        self.alike(hanging_on(LINE, "c", "b"), ["c"])

    def test_kept_by_another_parent(self):
        self.alike(hanging_on(MIXED, "b", ""), [])
        self.alike(hanging_on(MIXED, "b", "a"), [])
        self.alike(hanging_on(MIXED, "a", ""), ["a"])
        self.alike(hanging_on(MIXED, "c", "b"), [])

    def test_kept_further_down(self):
        stand = web(a="*", b="a", c="a", d="b c", e="d", f="b")
        self.alike(hanging_on(stand, "b", "a"), ["b", "f"])
        self.alike(hanging_on(stand, "a", ""), ["a", "b", "c", "d", "e", "f"])

    def test_rising_whatever_the_web(self):
        self.alike(hanging_on(web(z="*", y="z", x="y"), "z", ""), ["x", "y", "z"])

    def test_what_does_not_stand(self):
        self.alike(hanging_on(MIXED, "gone", ""), [])
        self.alike(hanging_on(MIXED, "none", ""), [])
        self.alike(hanging_on(MIXED, "gone", "a"), [])

    def test_those_that_ended_are_not_told(self):
        stand = web(a="*", b="", c="a")
        self.alike(hanging_on(stand, "a", ""), ["a", "c"])

    def test_each_parent_of_each_leave(self):
        for stand in (LINE, MIXED, LADDER):
            for row in stand[7]:
                for parent in row[2]:
                    self.alike(hanging_on(stand, row[0], parent), hanging_again(stand, row[0], parent))

    def test_the_askers_own(self):
        stand = copy.deepcopy(LINE)
        hanging_on(stand, "a", "").clear()
        self.assertEqual(hanging_on(stand, "a", ""), ["a", "b", "c"])
        self.assertEqual(stand, LINE)


if __name__ == "__main__":
    unittest.main()
