"""[27] papers written and read; [12] what is of a paper's form."""

import copy
import random
import unittest

from leavebook.entries import is_paper
from leavebook.papertexts import paper_text, read_paper
from tests import shapes
from tests.samples import NO_TEXTS, Case

HANDS = ("ann", "bob", "cid", "dan", "eve", "fay", "gil", "hal")


def part(chain, *signers):
    """A part, its chain told by letters."""
    return ("part", chain[0], tuple(chain), signers)


def some(*rows):
    return ("some", rows)


A = part("a", "ann")


def deep(levels):
    """A paper of so many levels, and its text."""
    paper, text = A, "a:ann"
    for _ in range(levels - 1):
        paper, text = some((0, paper)), f"(0 {text})"
    return paper, text


def wide(many):
    """A paper of four somes in one, with so many parts and somes in all, from 10 to 29."""
    paper = []
    for at in range(4):
        parts = (many - 5) // 4 + (1 if at < (many - 5) % 4 else 0)
        paper.append((at, some(*[(number, A) for number in range(parts)])))
    text = "; ".join(f"{at} ({'; '.join(f'{number} a:ann' for number, inner in papers[1])})" for at, papers in paper)
    return some(*paper), f"({text})"


RIGHT = [
    (A, "a:ann"), (part("ca", "ann", "bob"), "c>a:ann,bob"), (part("abcdef", "ann"), "a>b>c>d>e>f:ann"), (part("a", *HANDS), "a:" + ",".join(HANDS)),
    (part("aa", "ann"), "a>a:ann"), (("part", "zzzzzz", ("zzzzzz", "a"), ("abcdef",)), "zzzzzz>a:abcdef"),
    (some((0, A)), "(0 a:ann)"), (some((5, A)), "(5 a:ann)"),
    (some((0, A), (2, some((0, part("b", "bob"))))), "(0 a:ann; 2 (0 b:bob))"),
    (some((1, some((0, A), (3, part("ba", "ann", "cid")))), (4, A)), "(1 (0 a:ann; 3 b>a:ann,cid); 4 a:ann)"),
    (some(*[(at, A) for at in range(6)]), "(0 a:ann; 1 a:ann; 2 a:ann; 3 a:ann; 4 a:ann; 5 a:ann)"),
    *[deep(levels) for levels in range(1, 6)], wide(23), wide(24),
]
WRONG = [
    "", " ", "-", "a", ":", "a:", ":ann", "a:-", ">a:ann", "a>:ann", "a>>b:ann", "a:ann,", "a:,ann", "a:ann,ann", "a:bob,ann", "a:ann bob", "a: ann", "a :ann",
    " a:ann", "a:ann ", "a:ann\n", "\na:ann", "a:ann\nb:ann", "a:ann:bob", "a,b:ann", "a>b", "a>b:", "abcdefg:ann", "a:abcdefg", "a>abcdefg:ann", "A:ann", "a:Ann", "a1:ann", "a:*",
    "a>b>c>d>e>f>g:ann", "a:" + ",".join((*HANDS, "ida")), "()", "( )", "(a:ann)", "(0)", "(0 )", "(0  a:ann)", "( 0 a:ann)", "(0 a:ann )", "(0 a:ann", "0 a:ann)", "0 a:ann",
    "(0 a:ann))", "((0 a:ann)", "((0 a:ann))", "(0 (a:ann))", "(0 a:ann;1 b:ann)", "(0 a:ann; )", "(0 a:ann; 1)", "(; 0 a:ann)", "(0 a:ann;  1 b:ann)", "(0 a:ann ; 1 b:ann)",
    "(0 a:ann, 1 b:ann)", "(1 a:ann; 0 b:ann)", "(0 a:ann; 0 b:ann)", "(6 a:ann)", "(-1 a:ann)", "(00 a:ann)", "(01 a:ann)", "(10 a:ann)", "(+1 a:ann)", "(one a:ann)", "(0:a:ann)",
    "(0 a:ann; 1 a:ann; 2 a:ann; 3 a:ann; 4 a:ann; 5 a:ann; 6 a:ann)", "(0 a:ann)\n", "(0 a:ann)(1 b:bob)", "(0 a:ann); (1 b:bob)", "(0 (0 a:ann); 1 b:ann", ")0 a:ann(", "(0 a:ann]", "[0 a:ann]",
    "(\u0660 a:ann)", "a:\u00e9", deep(6)[1], wide(25)[1], wide(29)[1], "(" * 1000 + ")" * 1000, "(0 " * 500 + "a:ann" + ")" * 500, "a>" * 999 + "a:b", "(" * 2000,
]


class Papers(Case):
    def test_written_and_read(self):
        before = copy.deepcopy(RIGHT)
        self.written(paper_text, read_paper, RIGHT)
        self.assertEqual(RIGHT, before)
        self.true_of(is_paper, [paper for paper, text in RIGHT])

    def test_at_the_bounds(self):
        self.assertTrue(is_paper(deep(5)[0]) and is_paper(wide(24)[0]))
        self.assertFalse(is_paper(deep(6)[0]) or is_paper(wide(25)[0]))
        self.assertEqual(wide(24)[1].count(":") + wide(24)[1].count("("), 24)

    def test_other_texts(self):
        self.no_text(read_paper, WRONG)
        self.false_of(shapes.is_paper, [text for text in WRONG if len(text) < 900])

    def test_no_texts(self):
        self.no_text(read_paper, NO_TEXTS + [A, some((0, A)), b"a:ann", ["a:ann"]])

    def test_near_texts(self):
        texts = ["a:ann", "c>a:ann,bob", "(0 a:ann; 2 (0 b:bob))", "(1 (0 a:ann; 3 b>a:ann,cid); 4 a:ann)", deep(5)[1], wide(24)[1]]
        self.near(paper_text, read_paper, is_paper, texts, shapes.is_paper)

    def test_papers_by_chance(self):
        for seed in range(300):
            paper = self.by_chance(random.Random(seed), 4)
            if is_paper(paper):
                self.alike(read_paper(paper_text(paper)), paper)
            else:
                self.no_text(read_paper, [paper_text(paper)])

    def by_chance(self, chance, levels):
        if levels and chance.random() < 0.6:
            numbers = sorted(chance.sample(range(6), chance.randint(1, 4)))
            return some(*[(number, self.by_chance(chance, levels - 1)) for number in numbers])
        return part("".join(chance.choices("abc", k=chance.randint(1, 6))), *sorted(chance.sample(HANDS, chance.randint(1, 8))))


if __name__ == "__main__":
    unittest.main()
