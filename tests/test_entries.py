"""[12] entries, and the form of papers."""

import unittest

from leavebook.entries import is_entry, is_paper
from tests.samples import WHATEVER, Case, nested
from tests.test_rules import ANY, deep, some, wide
from tests.test_terms import PLAIN, TERMS, changed

PART = ("part", "a", ("a",), ("ann",))
NAMES = tuple("abcdefghijklm")

# Each kind right.
RIGHT = {
    "hand": ("hand", "ann"),
    "join": ("join", "team", "ann"),
    "quit": ("quit", "team", "ann"),
    "seat": ("seat", "chief", "ann", 5),
    "unseat": ("unseat", "chief"),
    "thing": ("thing", "till", "ann"),
    "rule": ("rule", "till", "pay", ANY),
    "apart": ("apart", "till", ("check", "pay")),
    "wait": ("wait", 1),
    "give": ("give", "a", ("ann",), "", PLAIN),
    "back": ("back", ("ann", "bob"), "a", "b"),
    "take": ("take", ("ann",), "b", "a", "pass"),
    "ask": ("ask", "one", "ann", "pay", "till", "case", 30),
    "sign": ("sign", "ann", "one", "a"),
    "unsign": ("unsign", "ann", "one", "a"),
    "drop": ("drop", "ann", "one"),
    "do": ("do", "one", PART),
}
# The places that hold a name; those of other kinds have tests of their own.
NAME_PLACES = {
    "hand": (1,), "join": (1, 2), "quit": (1, 2), "seat": (1, 2), "unseat": (1,), "thing": (1, 2), "rule": (1, 2), "apart": (1,), "wait": (),
    "give": (1,), "back": (2,), "take": (2,), "ask": (1, 2, 3, 4, 5), "sign": (1, 2, 3), "unsign": (1, 2, 3), "drop": (1, 2), "do": (1,),
}
# Of each word, the place with a parent, signers, or a whole number.
PARENT_PLACES = {"give": 3, "back": 3, "take": 3}
SIGNER_PLACES = {"give": 2, "back": 1, "take": 1}


def put(entry, place, thing):
    """The entry with another thing in a place."""
    return entry[:place] + (thing,) + entry[place + 1:]


def papers(*rows):
    return ("some", rows)


def deep_paper(levels):
    paper = PART
    for _ in range(levels - 1):
        paper = papers((0, paper))
    return paper


def wide_paper(many):
    """A paper of so many parts and somes, three deep at most."""
    rest, inner = many - 1, []
    while rest > 0:
        size = min(rest, 7)
        inner.append(papers(*enumerate([PART] * (size - 1))) if size > 1 else PART)
        rest -= size
    return papers(*enumerate(inner))


class Entries(Case):
    def test_seventeen_kinds(self):
        self.assertEqual(len(RIGHT), 17)
        self.true_of(is_entry, RIGHT.values())

    def test_whatever(self):
        self.false_of(is_entry, WHATEVER)
        self.false_of(is_entry, [(), "hand ann", ("hand",), ("wait",), [], nested(100), ("do", "one", nested(100)), ((), "ann"), ([], "ann")])

    def test_a_list_is_none(self):
        self.false_of(is_entry, [list(entry) for entry in RIGHT.values()])

    def test_a_place_more_and_one_fewer(self):
        for entry in RIGHT.values():
            self.false_of(is_entry, [entry + (thing,) for thing in ("ann", 1, None, (), ANY, PART, "fall")])
            self.false_of(is_entry, [entry[:at] for at in range(len(entry))])
            self.false_of(is_entry, [entry[:at] + entry[at + 1:] for at in range(len(entry))])

    def test_another_word(self):
        for word, entry in RIGHT.items():
            self.false_of(is_entry, [put(entry, 0, thing) for thing in WHATEVER])
            others = [word + "\n", word.upper(), word + "s", word[:-1], "", "house", "leave", "part", "some", "any", word.encode(), (word,), [word]]
            self.false_of(is_entry, [put(entry, 0, other) for other in others])

    def test_words_exchanged(self):
        alike = [("hand", "unseat"), ("join", "quit", "thing", "drop"), ("sign", "unsign")]
        for word, entry in RIGHT.items():
            for other in RIGHT:
                right = word == other or any(word in group and other in group for group in alike)
                self.told(right, is_entry(put(entry, 0, other)))

    def test_names(self):
        for word, places in NAME_PLACES.items():
            for place in places:
                self.true_of(is_entry, [put(RIGHT[word], place, name) for name in ("a", "abcdef", "hand", "fall")])
                self.false_of(is_entry, [put(RIGHT[word], place, thing) for thing in WHATEVER + ["abcdefg", "ann\n", ("ann",)]])

    def test_turns(self):
        for entry, place in ((RIGHT["seat"], 3), (RIGHT["wait"], 1)):
            self.true_of(is_entry, [put(entry, place, turns) for turns in (1, 2, 10 ** 60)])
            self.false_of(is_entry, [put(entry, place, turns) for turns in (0, -1, True, False, None, "1", (1,), [])])

    def test_amount(self):
        self.true_of(is_entry, [put(RIGHT["ask"], 6, amount) for amount in (0, 1, 10 ** 60)])
        self.false_of(is_entry, [put(RIGHT["ask"], 6, amount) for amount in (-1, True, False, None, "0", (0,), [])])

    def test_parents(self):
        for word, place in PARENT_PLACES.items():
            self.true_of(is_entry, [put(RIGHT[word], place, parent) for parent in ("", "a", "abcdef")])
            wrong = [thing for thing in WHATEVER if thing != ""] + ["-", "*", " ", "\n", None, (), b"", "abcdefg"]
            self.false_of(is_entry, [put(RIGHT[word], place, parent) for parent in wrong])

    def test_signers(self):
        for word, place in SIGNER_PLACES.items():
            self.true_of(is_entry, [put(RIGHT[word], place, signers) for signers in (("ann",), NAMES[:2], NAMES[:8])])
            wrong = WHATEVER + [(), NAMES[:9], ["ann"], "ann", ("bob", "ann"), ("ann", "ann"), ("ann", 1), ("ann", None), ("ann\n",)]
            self.false_of(is_entry, [put(RIGHT[word], place, signers) for signers in wrong])

    def test_rule(self):
        entry = RIGHT["rule"]
        right = [None, ANY, ("of", (("hand", "ann"),)), ("with", "a", "b"), some(1, ANY, ANY), deep(5), wide(24)]
        self.true_of(is_entry, [put(entry, 3, rule) for rule in right])
        wrong = [thing for thing in WHATEVER if thing is not None] + [(), "any", "-", ["any"], some(2, ANY), deep(6), wide(25), deep(100)]
        self.false_of(is_entry, [put(entry, 3, rule) for rule in wrong])

    def test_apart(self):
        entry = RIGHT["apart"]
        self.true_of(is_entry, [put(entry, 2, deeds) for deeds in (("a", "b"), NAMES[:6])])
        wrong = WHATEVER + [(), ("a",), NAMES[:7], ["a", "b"], ("b", "a"), ("a", "a"), ("a", "b", "b"), ("a", 1), (1, 2), "ab"]
        self.false_of(is_entry, [put(entry, 2, deeds) for deeds in wrong])

    def test_terms(self):
        entry = RIGHT["give"]
        self.true_of(is_entry, [put(entry, 4, terms) for terms in (PLAIN, TERMS)])
        wrong = WHATEVER + [(), list(PLAIN), PLAIN[:-1], PLAIN + (0,), changed(PLAIN, need=0), changed(PLAIN, end=0), changed(PLAIN, on=True)]
        self.false_of(is_entry, [put(entry, 4, terms) for terms in wrong])

    def test_how(self):
        entry = RIGHT["take"]
        self.true_of(is_entry, [put(entry, 4, how) for how in ("fall", "pass")])
        self.false_of(is_entry, [put(entry, 4, how) for how in WHATEVER + ["", "Fall", "pass\n", "fallpass", b"fall", ("fall",), "none"]])

    def test_papers_in_a_do(self):
        entry = RIGHT["do"]
        self.true_of(is_entry, [put(entry, 2, paper) for paper in (PART, papers((0, PART)), deep_paper(5), wide_paper(24))])
        self.false_of(is_entry, [put(entry, 2, paper) for paper in WHATEVER + [deep_paper(6), wide_paper(25), deep_paper(100), None, ANY]])


class Papers(Case):
    def parts(self, place, things):
        return [put(PART, place, thing) for thing in things]

    def test_parts(self):
        self.true_of(is_paper, [PART, ("part", "c", ("c", "a"), ("ann", "bob"))])
        self.false_of(is_paper, WHATEVER)
        self.false_of(is_paper, [(), list(PART), PART[:-1], PART[1:], PART + (1,), PART + ((),), "a:ann"] + self.parts(0, WHATEVER))
        self.false_of(is_paper, self.parts(0, ["some", "Part", "part\n", "", None]))

    def test_leave_is_the_chains_first(self):
        self.false_of(is_paper, self.parts(1, WHATEVER) + self.parts(1, ["b", "", None, "abcdefg"]))
        self.false_of(is_paper, self.parts(2, [("b",), ("b", "a"), ("aa", "a")]))
        self.false_of(is_paper, [("part", wrong, (wrong,), ("ann",)) for wrong in ("", None, 1, "abcdefg", "a\n")])

    def test_chains(self):
        self.true_of(is_paper, self.parts(2, [("a", "z"), ("a", "c", "b"), NAMES[:6], ("a", "f", "e", "d", "c", "b"), ("a", "a")]))
        self.false_of(is_paper, self.parts(2, WHATEVER))
        self.false_of(is_paper, self.parts(2, [(), NAMES[:7], ["a"], "a", ("a", ""), ("a", 1), ("a", None), ("a", "b\n"), ("a", ("b",)), ("a", "abcdefg")]))

    def test_signers(self):
        self.true_of(is_paper, self.parts(3, [("ann",), NAMES[:8]]))
        self.false_of(is_paper, self.parts(3, WHATEVER))
        self.false_of(is_paper, self.parts(3, [(), NAMES[:9], ["ann"], "ann", ("b", "a"), ("a", "a"), ("a", 1), (None,)]))

    def test_somes(self):
        self.true_of(is_paper, [papers((0, PART)), papers((5, PART)), papers((0, PART), (5, PART)), papers(*enumerate([PART] * 6))])
        self.false_of(is_paper, [
            papers(), ("some",), ("some", PART), ("some", [(0, PART)]), ["some", ((0, PART),)], ("some", ((0, PART),), 1), ("Some", ((0, PART),)),
            ("some", 1, ((0, PART),)), papers(PART), papers([0, PART]), papers((0,)), papers((0, PART, 1)), papers((PART, 0)), papers((0, None)),
            papers(*enumerate([PART] * 7)), ("part", ((0, PART),)), ("some", None), ("some", "a"), papers((0, PART), (1, None)), papers((0, PART), 1),
            papers((0, ANY)), papers((0, list(PART))), ("some", {0: PART}),
        ])

    def test_numbers_rise_from_nought_to_five(self):
        self.false_of(is_paper, [
            papers((6, PART)), papers((-1, PART)), papers((0, PART), (0, PART)), papers((1, PART), (0, PART)), papers((0, PART), (6, PART)),
            papers((0, PART), (2, PART), (1, PART)), papers((True, PART)), papers((False, PART)), papers((0, PART), (True, PART)),
            papers((False, PART), (1, PART)), papers((None, PART)), papers(("0", PART)), papers((0, PART), ("1", PART)), papers((0, PART), (None, PART)),
            papers(((), PART)), papers((10 ** 59, PART)),
        ])
        whole = (0, 1, 5)
        self.false_of(is_paper, [papers((thing, PART)) for thing in WHATEVER if type(thing) is not int or thing not in whole])

    def test_whatever_within(self):
        self.false_of(is_paper, [papers((0, PART), (1, thing)) for thing in WHATEVER])
        self.false_of(is_paper, [papers((0, PART), thing) for thing in WHATEVER])
        self.false_of(is_paper, [("some", thing) for thing in WHATEVER])

    def test_twenty_four(self):
        for many in range(2, 31):
            self.told(many <= 24, is_paper(wide_paper(many)))

    def test_five_deep(self):
        for levels in range(1, 9):
            self.told(levels <= 5, is_paper(deep_paper(levels)))
        self.told(False, is_paper(papers((0, PART), (1, deep_paper(5)))))
        self.told(False, is_paper(deep_paper(100)))
        broad = PART
        for _ in range(99):
            broad = papers(*enumerate([broad] * 6))
        self.told(False, is_paper(broad))
        self.told(False, is_entry(("do", "one", broad)))


if __name__ == "__main__":
    unittest.main()
