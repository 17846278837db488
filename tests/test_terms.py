"""[6] terms; [7] narrower."""

import itertools
import unittest

from leavebook.terms import is_terms, narrower
from tests.samples import WHATEVER, Case

TERMS = ("till", ("pay", "see"), (("group", "team"), ("hand", "ann")), 2, 3, 100, 2, 9, 1)
PLAIN = ("till", ("pay",), (("hand", "ann"),), 1, None, None, 0, None, 0)
PLACES = ("thing", "deeds", "who", "need", "most", "total", "start", "end", "on")


def changed(terms, **places):
    """The terms with other things in these places."""
    return tuple(places.get(place, thing) for place, thing in zip(PLACES, terms))


class Terms(Case):
    def right(self, place, things):
        self.true_of(is_terms, [changed(TERMS, **{place: thing}) for thing in things])

    def wrong(self, place, things):
        self.false_of(is_terms, [changed(TERMS, **{place: thing}) for thing in things])

    def test_terms(self):
        self.true_of(is_terms, [TERMS, PLAIN])

    def test_no_terms(self):
        self.false_of(is_terms, WHATEVER)
        self.false_of(is_terms, [(), list(TERMS), TERMS + (1,), TERMS[:-1], TERMS + (None,), TERMS[1:], (TERMS,), dict(zip(PLACES, TERMS))])

    def test_whatever_in_each_place(self):
        for place in ("thing", "deeds", "who"):
            self.wrong(place, WHATEVER)
        no_numbers = [thing for thing in WHATEVER if thing is not None and type(thing) is not int]
        for place in ("need", "most", "total", "start", "end", "on"):
            self.wrong(place, no_numbers)

    def test_thing(self):
        self.right("thing", ["a", "abcdef"])
        self.wrong("thing", ["", "abcdefg", "till\n", None, ("till",)])

    def test_deeds(self):
        self.right("deeds", [("pay",), ("a", "b", "c", "d", "e", "f")])
        self.wrong("deeds", [(), tuple("abcdefg"), ["pay"], "pay", ("see", "pay"), ("pay", "pay"), ("pay", 1), (None, "pay"), ("pay\n",)])

    def test_who(self):
        self.right("who", [(("office", "chief"),)])
        self.wrong("who", [(), "ann", ("hand", "ann"), [("hand", "ann")], (("hand", "bob"), ("hand", "ann"))])

    def test_need(self):
        self.right("need", [1, 2, 3, 4, 5, 6])
        self.wrong("need", [0, 7, -1, 60, None, True, False, "1", (1,)])

    def test_most(self):
        self.right("most", [None, 1, 2, 10 ** 60])
        self.wrong("most", [0, -1, True, False, "1", ()])

    def test_total(self):
        self.right("total", [None, 0, 1, 10 ** 60])
        self.wrong("total", [-1, True, False, "0", ()])

    def test_start(self):
        self.right("start", [0, 1, 8])
        self.wrong("start", [9, 10, -1, None, True, False, "0", [], ()])
        self.told(True, is_terms(changed(PLAIN, start=10 ** 60)))

    def test_end(self):
        self.right("end", [None, 3, 10 ** 60])
        self.wrong("end", [2, 1, 0, -1, True, False, "9"])
        self.told(True, is_terms(changed(TERMS, start=0, end=1)))
        self.told(False, is_terms(changed(TERMS, start=0, end=0)))
        self.told(False, is_terms(changed(TERMS, start=0, end=True)))

    def test_on(self):
        self.right("on", [0, 1, 2, 3, 4, 5])
        self.wrong("on", [6, -1, None, True, False, "0"])

    def test_wrong_start_with_any_end(self):
        self.false_of(is_terms, [changed(TERMS, start=start, end=end) for start in (None, "a", (), True) for end in (None, 9, "b")])


class Narrower(Case):
    def test_each_condition_holds(self):
        self.told(True, narrower(changed(TERMS, on=0), TERMS))
        self.told(True, narrower(PLAIN, changed(PLAIN, on=1)))

    def test_thing(self):
        self.told(False, narrower(changed(TERMS, on=0, thing="safe"), TERMS))

    def test_deeds(self):
        one = changed(TERMS, on=0)
        self.told(True, narrower(changed(one, deeds=("pay",)), TERMS))
        self.told(True, narrower(changed(one, deeds=("see",)), TERMS))
        self.told(False, narrower(changed(one, deeds=("pay", "see", "tell")), TERMS))
        self.told(False, narrower(changed(one, deeds=("tell",)), TERMS))
        self.told(False, narrower(changed(one, deeds=("add", "pay")), TERMS))

    def test_bounds_from_above(self):
        for place in ("most", "total", "end"):
            for mine, theirs in itertools.product((None, 4, 5, 6), repeat=2):
                one = changed(TERMS, on=0, **{place: mine})
                other = changed(TERMS, **{place: theirs})
                right = theirs is None or (mine is not None and mine <= theirs)
                with self.subTest(place=place, mine=mine, theirs=theirs):
                    self.told(right, narrower(one, other))

    def test_total_nought(self):
        one = changed(TERMS, on=0, total=0)
        self.told(True, narrower(one, changed(TERMS, total=0)))
        self.told(True, narrower(one, changed(TERMS, total=None)))
        self.told(False, narrower(changed(one, total=None), changed(TERMS, total=0)))
        self.told(False, narrower(changed(one, total=1), changed(TERMS, total=0)))

    def test_start(self):
        for mine, theirs in itertools.product((0, 1, 2), repeat=2):
            self.told(mine >= theirs, narrower(changed(TERMS, on=0, start=mine), changed(TERMS, start=theirs)))

    def test_on(self):
        for mine, theirs in itertools.product(range(6), repeat=2):
            self.told(mine < theirs, narrower(changed(TERMS, on=mine), changed(TERMS, on=theirs)))

    def test_who_and_need_are_free(self):
        for need in (1, 2, 6):
            self.told(True, narrower(changed(TERMS, on=0, need=need, who=(("office", "x"),)), TERMS))

    def test_none_is_narrower_than_itself(self):
        for terms in (TERMS, PLAIN):
            self.told(False, narrower(terms, terms))


if __name__ == "__main__":
    unittest.main()
