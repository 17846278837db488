"""[26] clashes; [3] deeds that lie apart are, from then on, never signed by one hand in one case."""

import copy
import random
import unittest

from leavebook.apart import clashes
from leavebook.book import Book
from leavebook.errors import Refused
from leavebook.stands import first_stand
from leavebook.termtexts import read_terms
from tests.made import asking, stand_of
from tests.samples import Case


def done(name, deed, *signers, thing="till", case="case", state="done"):
    return asking(name, deed=deed, thing=thing, case=case, state=state, signers=signers)


def stand_with(*askings, aparts=(("till", ("check", "pay")),)):
    return stand_of(hands=["ann", "bob", "cid"], things=[("box", "ann"), ("till", "ann")], aparts=aparts, askings=askings)


class Clashes(Case):
    def are(self, expected, stand):
        before = copy.deepcopy(stand)
        self.alike(clashes(stand), expected)
        self.assertEqual(stand, before)

    def test_none(self):
        self.are([], first_stand())
        self.are([], stand_with())
        self.are([], stand_with(done("one", "pay", "ann"), done("two", "check", "bob")))

    def test_one(self):
        self.are([("till", "case", "ann", "check", "pay")], stand_with(done("one", "pay", "ann"), done("two", "check", "ann")))
        self.are([("till", "case", "ann", "check", "pay")], stand_with(done("one", "check", "ann", "cid"), done("two", "pay", "ann", "bob")))

    def test_deed_ahead_of_other(self):
        for one, two in (("check", "pay"), ("pay", "check")):
            self.are([("till", "case", "ann", "check", "pay")], stand_with(done("one", one, "ann"), done("two", two, "ann")))

    def test_only_where_they_lie_apart(self):
        askings = [done("one", "pay", "ann"), done("two", "check", "ann")]
        for aparts in ([], [("box", ("check", "pay"))], [("till", ("check", "see"))], [("till", ("pay", "see"))], [("till", ("check", "see")), ("till", ("pay", "see"))]):
            self.are([], stand_with(*askings, aparts=aparts))
        self.are([("till", "case", "ann", "check", "pay")], stand_with(*askings, aparts=[("till", ("check", "move", "pay", "see"))]))

    def test_other_cases_and_things(self):
        self.are([], stand_with(done("one", "pay", "ann"), done("two", "check", "ann", case="else")))
        both = [("box", ("check", "pay")), ("till", ("check", "pay"))]
        self.are([], stand_with(done("one", "pay", "ann"), done("two", "check", "ann", thing="box"), aparts=both))
        self.are([], stand_with(done("one", "pay", "ann", thing="box"), done("two", "check", "ann", thing="box")))
        self.are([("box", "else", "ann", "check", "pay")], stand_with(
            done("one", "pay", "ann", thing="box", case="else"), done("two", "check", "ann", thing="box", case="else"), done("three", "check", "ann"), aparts=both))

    def test_one_deed_twice(self):
        self.are([], stand_with(done("one", "pay", "ann"), done("two", "pay", "ann")))

    def test_open_and_dropped(self):
        signed = (("ann", "a"),)
        for state in ("open", "dropped"):
            self.are([], stand_with(done("one", "pay", "ann"), asking("two", deed="check", signs=signed, state=state)))

    def test_rising_each_once(self):
        askings = [
            done("one", "pay", "ann", "bob"), done("two", "check", "ann", "bob"), done("three", "check", "bob"), done("four", "see", "bob", "cid"),
            done("five", "pay", "cid", case="a"), done("six", "see", "cid", case="a"), done("seven", "pay", "ann", thing="box"), done("eight", "move", "ann", thing="box"),
        ]
        aparts = [("till", ("check", "pay")), ("till", ("check", "pay", "see")), ("box", ("move", "pay"))]
        self.are([
            ("box", "case", "ann", "move", "pay"), ("till", "a", "cid", "pay", "see"), ("till", "case", "ann", "check", "pay"), ("till", "case", "bob", "check", "pay"),
            ("till", "case", "bob", "check", "see"), ("till", "case", "bob", "pay", "see"),
        ], stand_with(*askings, aparts=aparts))

    def test_told_lists_are_the_askers_own(self):
        stand = stand_with(done("one", "pay", "ann"), done("two", "check", "ann"))
        clashes(stand).clear()
        self.assertEqual(len(clashes(stand)), 1)


class FromTheApartOn(Case):
    def setUp(self):
        entries = [
            ("hand", "ann"), ("hand", "bob"), ("thing", "till", "ann"),
            ("give", "a", ("ann",), "", read_terms("check,pay,see on till by 1 ann,bob")),
            ("ask", "one", "ann", "pay", "till", "case", 0), ("ask", "two", "ann", "check", "till", "case", 0), ("ask", "three", "ann", "see", "till", "case", 0),
            *[("sign", "ann", name, "a") for name in ("one", "two", "three")], ("sign", "bob", "two", "a"),
        ]
        self.stand = self.behind(first_stand(), *entries)

    def do(self, name, hand="ann"):
        return ("do", name, ("part", "a", ("a",), (hand,)))

    def test_done_before_it(self):
        stand = self.behind(self.stand, self.do("one"), self.do("two"))
        self.assertEqual(clashes(stand), [])
        stand = self.behind(stand, ("apart", "till", ("check", "pay")))
        self.assertEqual(clashes(stand), [("till", "case", "ann", "check", "pay")])

    def test_done_behind_it(self):
        stand = self.behind(self.stand, ("apart", "till", ("check", "pay", "see")), self.do("one"))
        self.refused("paper", stand, self.do("two"), self.do("three"))
        stand = self.behind(stand, self.do("two", "bob"))
        self.assertEqual(clashes(stand), [])

    def test_one_done_before_it(self):
        stand = self.behind(self.stand, self.do("one"), ("apart", "till", ("check", "pay")))
        self.assertEqual(clashes(stand), [])
        self.refused("paper", stand, self.do("two"))
        self.assertEqual(clashes(self.behind(stand, self.do("three"))), [])

    def test_no_entry_but_apart_makes_one(self):
        seen = 0
        for seed in range(30):
            chance, book = random.Random(seed), Book(self.stand)
            for _ in range(120):
                before = clashes(book.stand())
                entry = self.some_entry(chance, "q" + chance.choice("abcdefghijkl"))
                try:
                    book.fill(entry[1]) if entry[0] == "do" else book.do(entry)
                except Refused:
                    continue
                behind = clashes(book.stand())
                self.assertLessEqual(set(before), set(behind))
                self.assertTrue(entry[0] == "apart" or behind == before, entry)
                seen += len(behind) - len(before)
        self.assertGreater(seen, 5)

    def some_entry(self, chance, asking_name):
        deeds = ["check", "pay", "see"]
        if chance.random() < 0.02:
            return ("apart", "till", tuple(sorted(chance.sample(deeds, chance.choice([2, 3])))))
        word = chance.choice(["ask", "sign", "sign", "do"])
        if word == "ask":
            return (word, asking_name, "ann", chance.choice(deeds), "till", chance.choice(["case", "else"]), 0)
        return ("sign", chance.choice(["ann", "bob"]), asking_name, "a") if word == "sign" else (word, asking_name)


if __name__ == "__main__":
    unittest.main()
