"""[8] terms as texts."""

import re
import unittest

from leavebook.names import is_names
from leavebook.terms import is_terms
from leavebook.termtexts import read_terms, terms_text
from leavebook.whos import read_who
from tests.samples import NO_TEXTS, Case
from tests.test_terms import PLAIN, TERMS, changed

FULL = "pay,see on till by 2 +team,ann most 3 total 100 from 2 to 9 pass 1"
NUMBER = "(0|[1-9][0-9]*)"
SHAPE = re.compile(
    "([a-z]{1,6}(?:,[a-z]{1,6}){0,5}) on [a-z]{1,6} by [1-6] ([a-z+@,]+)"
    f"(?: most [1-9][0-9]*)?(?: total {NUMBER})?(?: from ([1-9][0-9]*))?(?: to {NUMBER})?(?: pass [1-5])?"
)


def is_right_text(text):
    """Said again in another way: is this how terms are written?"""
    found = SHAPE.fullmatch(text)
    if not found or not is_names(tuple(found[1].split(","))):
        return False
    try:
        read_who(found[2])
    except ValueError:
        return False
    return found[5] is None or int(found[5]) > int(found[4] or 0)


class TermTexts(Case):
    def test_written_and_read(self):
        self.written(terms_text, read_terms, [
            (TERMS, FULL),
            (PLAIN, "pay on till by 1 ann"),
            (changed(PLAIN, most=1), "pay on till by 1 ann most 1"),
            (changed(PLAIN, total=0), "pay on till by 1 ann total 0"),
            (changed(PLAIN, start=7), "pay on till by 1 ann from 7"),
            (changed(PLAIN, end=1), "pay on till by 1 ann to 1"),
            (changed(PLAIN, on=5), "pay on till by 1 ann pass 5"),
            (changed(PLAIN, most=20, end=30), "pay on till by 1 ann most 20 to 30"),
            (changed(PLAIN, total=10, on=2), "pay on till by 1 ann total 10 pass 2"),
            (changed(PLAIN, deeds=tuple("abcdef"), need=6), "a,b,c,d,e,f on till by 6 ann"),
            (changed(PLAIN, who=(("office", "chief"),)), "pay on till by 1 @chief"),
        ])

    def test_names_like_the_words(self):
        words = ("by", "from", "most", "on", "pass", "to")
        terms = ("on", words, tuple(("hand", word) for word in words), 1, 1, 1, 1, 2, 1)
        text = "by,from,most,on,pass,to on on by 1 by,from,most,on,pass,to most 1 total 1 from 1 to 2 pass 1"
        self.written(terms_text, read_terms, [
            (terms, text), (("by", ("on",), (("hand", "most"),), 3, None, None, 0, None, 0), "on on by by 3 most"),
        ])

    def test_many_figures(self):
        for figures in (1, 59, 60, 61, 639, 641, 1800, 3999, 4000):
            number = 10 ** figures - 1
            for place, word in (("most", "most"), ("total", "total"), ("start", "from"), ("end", "to")):
                terms = changed(PLAIN, **{place: number})
                self.written(terms_text, read_terms, [(terms, f"pay on till by 1 ann {word} " + "9" * figures)])
            terms = changed(PLAIN, most=number, total=number, start=number, end=number + 1)
            self.alike(read_terms(terms_text(terms)), terms)

    def test_refused_kinds(self):
        self.no_text(read_terms, NO_TEXTS)
        self.no_text(read_terms, [TERMS, FULL.encode(), [FULL], FULL.split(" ")])

    def test_refused_heads(self):
        self.no_text(read_terms, [
            "", " ", "pay", "pay on till", "pay on till by", "pay on till by 1", "pay on till by 1 ", "pay on till by ann",
            "pay on till by 1 -", "- on till by 1 ann", " on till by 1 ann", "pay on  by 1 ann", "pay at till by 1 ann",
            "pay on till of 1 ann", "on pay till by 1 ann", "pay on till 1 by ann", "pay on till by ann 1", "see,pay on till by 1 ann",
            "pay,pay on till by 1 ann", "pay, see on till by 1 ann", "a,b,c,d,e,f,g on till by 1 ann", "pay on till by 0 ann",
            "pay on till by 7 ann", "pay on till by 01 ann", "pay on till by -1 ann", "pay on till by +1 ann", "pay on till by one ann",
            "pay on till by 1 ann,+team", "pay on till by 1 ann,ann", "pay on abcdefg by 1 ann", "pay on till by 1 ann ann",
            "pay on till,safe by 1 ann", "Pay on till by 1 ann", "pay On till by 1 ann",
        ])

    def test_refused_blanks(self):
        head = "pay on till by 1 ann"
        self.no_text(read_terms, [
            head + " ", " " + head, head + "\n", "\n" + head, head.replace(" ", "  "), head.replace(" ", "\n"), head + "  most 3",
            head + " most  3", head + " most 3 ", head + " most 3\n", head + "\nmost 3", head + "\tmost 3", head + " most 3\n\n",
        ])

    def test_refused_bounds(self):
        head = "pay on till by 1 ann"
        self.no_text(read_terms, [head + " " + bounds for bounds in [
            "most", "most 0", "most -", "most None", "most 01", "most 1_0", "most -1", "most ann", "most 3 most 3", "most 3 most 4",
            "total", "total -", "total 00", "total -1", "total 1 total 1", "from", "from 0", "from 00", "from 01", "from -",
            "to", "to 0", "to -", "to 01", "from 2 to 2", "from 3 to 2", "to 9 to 9", "pass", "pass 0", "pass 6", "pass 01", "pass -",
            "pass 1 pass 1", "total 1 most 1", "from 1 most 1", "to 2 from 1", "pass 1 to 3", "pass 1 most 1", "from 1 total 1",
            "to 3 total 1", "some 1", "Most 1", "most 1 2", "1 most", "most most 1", "by 1", "on 1", "need 1", " 1", "most 1 until 2",
        ]])

    def test_near_texts(self):
        texts = [FULL, "pay on till by 1 ann", "pay on till by 1 ann total 0 to 1", "a,b on c by 6 +d,e,@f from 10 pass 5"]
        self.near(terms_text, read_terms, is_terms, texts, is_right_text)


if __name__ == "__main__":
    unittest.main()
