"""[15] and [16] give, back, take: what they do to a stand, and the words with which they are refused."""

import unittest

from leavebook.chains import chains_of, hanging_on
from leavebook.termtexts import read_terms
from tests.made import asking, leave, other, stand_of
from tests.samples import Case

STAND = stand_of(
    now=5, hands=["ann", "bob", "cid", "dan"], groups=[("team", "bob"), ("team", "cid")], things=[("box", "bob"), ("till", "ann")],
    leaves=[
        leave("a", "pay,see on till by 2 +team most 3 total 100 from 2 to 9 pass 3", times=1, spent=20),
        leave("b", "pay on till by 1 dan most 2 total 50 from 3 to 8 pass 2", ["a"], times=1, spent=20),
        leave("early", "pay on till by 1 dan from 6 pass 3"),
        leave("gone", "pay on till by 1 dan pass 3", []),
        leave("late", "pay on till by 1 dan to 5 pass 3"),
    ],
    askings=[asking(signs=[("dan", "b")])],
)
TEAM = ("bob", "cid")
NARROW = "pay on till by 1 dan most 3 total 100 from 2 to 9 pass 2"


def give(name, signers, parent, text):
    return ("give", name, tuple(signers), parent, read_terms(text))


class Handed(Case):
    def comes(self, stand, entry, *rows):
        """Behind the entry just these rows of leaves are new or others."""
        with self.subTest(entry=entry):
            changed = {row[0]: row for row in stand[7]}
            changed.update({row[0]: row for row in rows})
            self.alike(self.behind(stand, entry), other(stand, leaves=changed.values()))


class Give(Handed):
    def test_by_the_owner(self):
        text = "pay,see on till by 6 +none,eve,@none most 1 total 0 from 99 to 100 pass 5"
        self.comes(STAND, give("c", ["ann"], "", text), leave("c", text))
        self.comes(STAND, give("c", ["bob"], "", "see on box by 1 ann"), leave("c", "see on box by 1 ann"))

    def test_by_a_leave(self):
        self.comes(STAND, give("c", TEAM, "a", NARROW), leave("c", NARROW, ["a"]))
        self.comes(STAND, give("zz", ["dan"], "b", "pay on till by 3 eve most 1 total 0 from 4 to 5"), leave("zz", "pay on till by 3 eve most 1 total 0 from 4 to 5", ["b"]))

    def test_there(self):
        for name in ("a", "b", "early"):
            self.refused("there", STAND, give(name, ["ann"], "", NARROW))

    def test_the_name_of_an_ended_leave_is_not_given_again(self):
        self.refused("there", STAND, give("gone", ["ann"], "", NARROW), give("gone", TEAM, "a", NARROW))

    def test_thing(self):
        self.refused("thing", STAND, give("c", ["ann"], "", "pay on van by 1 dan"), give("c", TEAM, "a", "pay on van by 1 dan"))

    def test_leave(self):
        self.refused("leave", STAND, give("c", TEAM, "none", NARROW), give("c", ["dan"], "gone", NARROW), give("c", TEAM, "c", NARROW))

    def test_closed(self):
        self.refused("closed", STAND, give("c", ["dan"], "early", "pay on till by 1 dan from 6"), give("c", ["dan"], "late", "pay on till by 1 dan to 5"))
        self.comes(other(STAND, now=6), give("c", ["dan"], "early", "pay on till by 1 dan from 6"), leave("c", "pay on till by 1 dan from 6", ["early"]))
        self.comes(other(STAND, now=4), give("c", ["dan"], "late", "pay on till by 1 dan to 5"), leave("c", "pay on till by 1 dan to 5", ["late"]))

    def test_few(self):
        for signers in (["bob"], ["cid"], ["ann"], ["bob", "dan"], ["bob", "cid", "dan"], ["ann", "bob", "cid"]):
            self.refused("few", STAND, give("c", signers, "a", NARROW))
        self.refused("few", STAND, give("c", ["ann"], "b", "pay on till by 1 dan most 1 total 0 from 4 to 5"))

    def test_wider(self):
        wide = [
            "pay on box by 1 dan most 3 total 100 from 2 to 9 pass 2",
            "move,pay on till by 1 dan most 3 total 100 from 2 to 9 pass 2",
            "pay on till by 1 dan most 4 total 100 from 2 to 9 pass 2",
            "pay on till by 1 dan total 100 from 2 to 9 pass 2",
            "pay on till by 1 dan most 3 total 101 from 2 to 9 pass 2",
            "pay on till by 1 dan most 3 from 2 to 9 pass 2",
            "pay on till by 1 dan most 3 total 100 from 1 to 9 pass 2",
            "pay on till by 1 dan most 3 total 100 to 9 pass 2",
            "pay on till by 1 dan most 3 total 100 from 2 to 10 pass 2",
            "pay on till by 1 dan most 3 total 100 from 2 pass 2",
            "pay on till by 1 dan most 3 total 100 from 2 to 9 pass 3",
        ]
        self.refused("wider", STAND, *[give("c", TEAM, "a", text) for text in wide])

    def test_owner(self):
        for signers in (["bob"], ["ann", "bob"], ["dan"], ["eve"]):
            self.refused("owner", STAND, give("c", signers, "", NARROW))
        self.refused("owner", STAND, give("c", ["ann"], "", "see on box by 1 ann"))

    def test_the_first_word_that_is_due(self):
        van, box = "pay on van by 1 dan", "pay on box by 1 dan"
        self.refused("there", STAND, give("a", ["eve"], "none", van), give("gone", ["eve"], "", van))
        self.refused("thing", STAND, give("c", ["eve"], "none", van), give("c", ["eve"], "", van), give("c", ["eve"], "late", van))
        self.refused("leave", STAND, give("c", ["eve"], "none", box), give("c", ["eve"], "gone", box))
        self.refused("closed", STAND, give("c", ["eve"], "late", box), give("c", ["eve"], "early", NARROW), give("c", ["dan"], "late", box))
        self.refused("few", STAND, give("c", ["eve"], "a", box))

    def test_used_up_leaves_are_handed_on(self):
        stand = other(STAND, leaves=[leave("a", "pay on till by 1 dan most 1 total 5 pass 1", times=1, spent=5)])
        self.comes(stand, give("c", ["dan"], "a", "pay on till by 1 bob most 1 total 5"), leave("c", "pay on till by 1 bob most 1 total 5", ["a"]))


class Back(Handed):
    def setUp(self):
        self.stand = other(STAND, leaves=[*STAND[7], leave("c", "pay on till by 1 bob most 2 total 50 from 3 to 8 pass 1", ["b"], 1, 20)])

    def test_by_a_leave(self):
        self.comes(self.stand, ("back", TEAM, "c", "a"), leave("c", "pay on till by 1 bob most 2 total 50 from 3 to 8 pass 1", ["a", "b"], 1, 20))

    def test_by_the_owner(self):
        self.comes(self.stand, ("back", ("ann",), "c", ""), leave("c", "pay on till by 1 bob most 2 total 50 from 3 to 8 pass 1", ["", "b"], 1, 20))
        self.comes(self.stand, ("back", ("ann",), "b", ""), leave("b", "pay on till by 1 dan most 2 total 50 from 3 to 8 pass 2", ["", "a"], 1, 20))

    def test_all_of_them(self):
        stand = self.behind(self.stand, ("back", ("ann",), "c", ""), ("back", TEAM, "c", "a"))
        self.alike({row[0]: row[2] for row in stand[7]}["c"], ("", "a", "b"))
        self.alike(chains_of(stand, "c"), [("c",), ("c", "a"), ("c", "b", "a")])

    def test_leave(self):
        self.refused("leave", self.stand, ("back", ("ann",), "gone", ""), ("back", ("ann",), "none", ""), ("back", TEAM, "none", "a"))
        self.refused("leave", self.stand, ("back", ("dan",), "c", "gone"), ("back", ("dan",), "c", "none"))

    def test_closed(self):
        self.refused("closed", self.stand, ("back", ("dan",), "c", "late"), ("back", ("dan",), "c", "early"))

    def test_few(self):
        self.refused("few", self.stand, ("back", ("bob",), "c", "a"), ("back", ("ann", "bob"), "c", "a"), ("back", ("ann",), "c", "a"))

    def test_wider(self):
        stand = other(self.stand, leaves=[*self.stand[7], leave("d", "pay on till by 1 dan most 2 total 50 from 3 to 8 pass 1"), leave("e", "pay on till by 1 dan pass 2")])
        self.refused("wider", stand, ("back", ("dan",), "c", "d"), ("back", TEAM, "e", "a"), ("back", ("bob",), "c", "c"), ("back", ("bob",), "b", "c"))

    def test_owner(self):
        self.refused("owner", self.stand, ("back", ("bob",), "c", ""), ("back", ("ann", "bob"), "c", ""), ("back", ("dan",), "a", ""))

    def test_there(self):
        self.refused("there", self.stand, ("back", ("dan",), "c", "b"), ("back", ("ann",), "a", ""), ("back", TEAM, "b", "a"))

    def test_the_first_word_that_is_due(self):
        self.refused("leave", self.stand, ("back", ("eve",), "none", ""), ("back", ("eve",), "gone", "late"))
        self.refused("closed", self.stand, ("back", ("eve",), "a", "late"))
        self.refused("few", self.stand, ("back", ("eve",), "a", "b"), ("back", ("eve",), "b", "a"))
        self.refused("owner", self.stand, ("back", ("eve",), "a", ""))
        late = other(self.stand, now=8)
        self.refused("closed", late, ("back", ("dan",), "c", "b"))


def web(**parents):
    """A stand of leaves with these parents, told as words, `*` for the owner, none for an ended one; each by a hand of its name."""
    deep = {}
    for name, text in parents.items():
        deep[name] = max([0] + [deep[word] + 1 for word in text.split() if word != "*"])
    rows = []
    for name, text in parents.items():
        told = sorted("" if word == "*" else word for word in text.split())
        rows.append(leave(name, f"pay on till by 1 {name * 2} most 9 pass {5 - deep[name]}".replace(" pass 0", ""), told, deep[name], 7))
    return stand_of(hands=["ann"] + [name * 2 for name in parents], things=[("till", "ann")], leaves=rows)


class Take(Case):
    def parents_behind(self, stand, entry, **parents):
        """Behind the entry the leaves have these parents; all else is as it was."""
        with self.subTest(entry=entry):
            rows = []
            for row in stand[7]:
                told = sorted("" if word == "*" else word for word in parents[row[0]].split())
                rows.append(row[:2] + (tuple(told),) + row[3:])
            self.alike(self.behind(stand, entry), other(stand, leaves=rows))

    def test_a_line_with_fall(self):
        line = web(a="*", b="a", c="b", d="c")
        self.parents_behind(line, ("take", ("ann",), "d", "c", "fall"), a="*", b="a", c="b", d="")
        self.parents_behind(line, ("take", ("ann",), "b", "a", "fall"), a="*", b="", c="", d="")
        self.parents_behind(line, ("take", ("ann",), "a", "", "fall"), a="", b="", c="", d="")

    def test_the_middle_one_with_pass(self):
        line = web(a="*", b="a", c="b", d="c")
        self.parents_behind(line, ("take", ("ann",), "b", "a", "pass"), a="*", b="", c="a", d="c")
        self.parents_behind(line, ("take", ("ann",), "c", "b", "pass"), a="*", b="a", c="", d="b")
        self.parents_behind(line, ("take", ("ann",), "a", "", "pass"), a="", b="*", c="b", d="c")
        self.parents_behind(line, ("take", ("ann",), "d", "c", "pass"), a="*", b="a", c="b", d="")

    def test_more_than_one_parent_with_fall(self):
        stand = web(a="*", b="*", c="a b", d="c")
        self.parents_behind(stand, ("take", ("ann",), "c", "a", "fall"), a="*", b="*", c="b", d="c")
        self.parents_behind(stand, ("take", ("ann",), "a", "", "fall"), a="", b="*", c="b", d="c")
        mixed = web(a="*", b="* a", c="b", d="a c")
        self.parents_behind(mixed, ("take", ("ann",), "b", "", "fall"), a="*", b="a", c="b", d="a c")
        self.parents_behind(mixed, ("take", ("ann",), "b", "a", "fall"), a="*", b="*", c="b", d="a c")
        self.parents_behind(mixed, ("take", ("ann",), "a", "", "fall"), a="", b="*", c="b", d="c")

    def test_more_than_one_parent_with_pass(self):
        stand = web(a="*", b="*", c="a b", d="c")
        self.parents_behind(stand, ("take", ("ann",), "c", "a", "pass"), a="*", b="*", c="b", d="a c")
        self.parents_behind(stand, ("take", ("ann",), "a", "", "pass"), a="", b="*", c="* b", d="c")

    def test_the_parent_that_a_leave_had_already(self):
        stand = web(a="*", b="a", c="a b", d="* b")
        self.parents_behind(stand, ("take", ("ann",), "b", "a", "pass"), a="*", b="", c="a", d="* a")
        self.parents_behind(stand, ("take", ("ann",), "a", "", "pass"), a="", b="*", c="* b", d="* b")

    def test_ended_ones_stay_ended(self):
        stand = web(a="*", b="", c="a")
        self.parents_behind(stand, ("take", ("ann",), "c", "a", "pass"), a="*", b="", c="")
        self.parents_behind(stand, ("take", ("ann",), "a", "", "pass"), a="", b="", c="*")

    def test_what_hangs_on_ends(self):
        stand = web(a="*", b="* a", c="a b", d="b c", e="a", f="e")
        for row in stand[7]:
            for parent in row[2]:
                behind = self.behind(stand, ("take", ("ann",), row[0], parent, "fall"))
                ended = [one[0] for one, two in zip(stand[7], behind[7]) if one[2] and not two[2]]
                self.alike(hanging_on(stand, row[0], parent), ended)
                self.assertTrue(all(bool(one[2]) == bool(chains_of(behind, one[0])) for one in behind[7]))

    def test_by_whom(self):
        stand = web(a="*", b="a", c="b")
        for signers in (("ann",), ("aa",)):
            self.parents_behind(stand, ("take", signers, "b", "a", "fall"), a="*", b="", c="")
        for signers in (("bb",), ("cc",), ("aa", "ann"), ("aa", "bb"), ("eve",), ("ann", "bb")):
            self.refused("few", stand, ("take", signers, "b", "a", "fall"), ("take", signers, "b", "a", "pass"))

    def test_from_the_owner_by_the_owner_alone(self):
        stand = web(a="*", b="a")
        self.parents_behind(stand, ("take", ("ann",), "a", "", "fall"), a="", b="")
        self.refused("few", stand, ("take", ("aa",), "a", "", "fall"), ("take", ("aa", "ann"), "a", "", "pass"))

    def test_by_as_many_as_the_need(self):
        for signers in (TEAM, ("ann",)):
            behind = self.behind(STAND, ("take", signers, "b", "a", "fall"))
            self.assertEqual([row[2] for row in behind[7]], [("",), (), ("",), (), ("",)])
        self.refused("few", STAND, ("take", ("bob",), "b", "a", "fall"), ("take", ("dan",), "b", "a", "fall"))

    def test_by_a_parent_that_is_not_open(self):
        stand = other(STAND, now=9)
        self.assertEqual(self.behind(stand, ("take", TEAM, "b", "a", "fall"))[7][1][2], ())
        self.assertEqual(self.behind(other(STAND, now=1), ("take", TEAM, "b", "a", "pass"))[7][1][2], ())

    def test_refused(self):
        stand = web(a="*", b="a", c="b", z="")
        self.refused("leave", stand, ("take", ("ann",), "none", "", "fall"), ("take", ("ann",), "z", "", "pass"), ("take", ("ann",), "z", "a", "fall"))
        self.refused("lacks", stand, ("take", ("ann",), "b", "", "fall"), ("take", ("ann",), "c", "a", "pass"), ("take", ("ann",), "b", "none", "fall"))
        self.refused("lacks", stand, ("take", ("ann",), "b", "z", "fall"), ("take", ("ann",), "b", "b", "fall"), ("take", ("ann",), "b", "c", "fall"))

    def test_the_first_word_that_is_due(self):
        stand = web(a="*", b="a", c="b", z="")
        self.refused("leave", stand, ("take", ("eve",), "none", "zz", "fall"), ("take", ("eve",), "z", "", "pass"))
        self.refused("lacks", stand, ("take", ("eve",), "b", "", "fall"), ("take", ("eve",), "c", "none", "pass"))

    def test_what_ended_is_not_given_back_or_taken(self):
        stand = self.behind(web(a="*", b="a", c="b"), ("take", ("ann",), "b", "a", "fall"))
        self.refused("leave", stand, ("back", ("aa",), "b", "a"), ("take", ("ann",), "c", "b", "fall"), ("back", ("bb",), "c", "b"))
        self.refused("there", stand, give("b", ["ann"], "", "pay on till by 1 bb"))
        self.refused("leave", stand, give("d", ["bb"], "b", "pay on till by 1 bb"))


if __name__ == "__main__":
    unittest.main()
