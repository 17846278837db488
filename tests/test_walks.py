"""[3] and all of [12] to [21] over many rows of entries, each step compared with the plain reading."""

import collections
import copy
import random
import unittest

from leavebook.chains import chain_of, chains_of, hanging_on
from leavebook.checker import lets_by
from leavebook.entries import is_entry
from leavebook.errors import Refused
from leavebook.hands import hands_of
from leavebook.lacks import is_lack, lack_of
from leavebook.leaves import is_open, stands_now
from leavebook.papers import paper_of
from leavebook.puts import put_to, stand_behind
from leavebook.rules import is_rule
from leavebook.stands import first_stand
from leavebook.uses import is_free, is_usable
from tests.plain import Plain, Word
from tests.samples import Case

HANDS = ["ann", "bob", "cid", "dan"]
DEEDS = ["check", "pay", "see"]
THINGS = ["box", "till"]
CASES = ["c", "d"]
LEAVES = list("abcdefgh")
ASKINGS = ["one", "two", "three", "four", "five", "six"]
KINDS = """join quit seat unseat rule apart wait give give give give back back back take ask ask sign sign sign sign sign sign
sign sign sign sign sign sign unsign drop do do do do do do""".split()
FIRST = [
    ("hand", "ann"), ("hand", "bob"), ("hand", "cid"), ("hand", "dan"), ("thing", "till", "ann"), ("thing", "box", "bob"),
    ("join", "team", "ann"), ("join", "team", "cid"), ("apart", "till", ("check", "pay")),
]
WALKS, STEPS = 40, 120


class Walker:
    """Entries by chance, from a seed, most of them near to right ones."""

    def __init__(self, seed):
        self.chance = random.Random(seed)
        self.plain = Plain()

    def some_of(self, things, least=1, most=3):
        many = min(self.chance.randint(least, most), len(things))
        return tuple(sorted(self.chance.sample(things, many)))

    def who(self):
        parts = [("hand", hand) for hand in HANDS] + [("group", "team"), ("group", "crew"), ("office", "chief")]
        return self.some_of(parts, 1, 4)

    def one(self, *things):
        return self.chance.choice(things)

    def terms(self, above=None):
        thing, deeds, on = self.one(*THINGS), self.some_of(DEEDS), self.one(1, 2, 3, 5)
        if above is not None and self.chance.random() < 0.9:
            thing, deeds, on = above[0], self.some_of(list(above[1])), max(above[8] - 1, 0)
        most, total = self.one(None, None, 1, 2), self.one(None, None, 0, 10, 40)
        start, end = self.one(0, 0, 0, 0, self.plain.now, self.plain.now + 1), self.one(None, None, None, 3, 8)
        if above is not None and self.chance.random() < 0.8:
            most = above[4] if most is None else most
            total, start, end = above[5], above[6], above[7]
        return (thing, deeds, self.who(), self.one(1, 1, 1, 1, 2, 3), most, total, start, end if end is None or end > start else None, on)

    def rule(self, deep=2):
        kind = self.chance.random()
        if deep and kind < 0.5:
            rules = tuple(self.rule(deep - 1) for _ in range(self.chance.randint(1, 3)))
            return ("some", self.chance.randint(1, len(rules)), rules)
        if kind < 0.7:
            return ("any",)
        return ("of", self.who()) if kind < 0.9 else ("with", self.one(*DEEDS), self.one(*THINGS))

    def leave(self):
        """Mostly one that stands."""
        standing = [name for name in sorted(self.plain.leaves) if self.plain.standing(name)]
        return self.one(*(standing if standing and self.chance.random() < 0.85 else LEAVES))

    def asking(self):
        """Mostly one that is open."""
        opened = [name for name in ASKINGS if name in self.plain.askings and self.plain.askings[name]["state"] == "open"]
        return self.one(*(opened if opened and self.chance.random() < 0.85 else ASKINGS))

    def fresh(self, names, known):
        """Mostly one that is new."""
        new = [name for name in names if name not in known]
        return self.one(*(new if new and self.chance.random() < 0.8 else names))

    def parent(self):
        return self.one("", self.leave(), self.leave())

    def signers(self, thing, parent):
        """Mostly hands that may hand on by the parent."""
        if self.chance.random() < 0.2:
            return self.some_of(HANDS)
        if parent in self.plain.leaves:
            terms = self.plain.leaves[parent]["terms"]
            meant = sorted(self.plain.meant(terms[2]))
            return self.some_of(meant, terms[3], 4) if meant else ("ann",)
        return (self.plain.things.get(thing, "ann"),)

    def give(self):
        parent = self.parent()
        above = self.plain.leaves[parent]["terms"] if parent in self.plain.leaves else None
        terms = self.terms(above)
        return ("give", self.fresh(LEAVES, self.plain.leaves), self.signers(terms[0], parent), parent, terms)

    def back(self):
        leave, parent = self.leave(), self.parent()
        thing = self.plain.leaves[leave]["terms"][0] if leave in self.plain.leaves else "till"
        return ("back", self.signers(thing, parent), leave, parent)

    def take(self):
        leave = self.leave()
        parents = sorted(self.plain.leaves[leave]["parents"]) if leave in self.plain.leaves else []
        parent = self.one(*parents, *parents, self.one("", *LEAVES))
        thing = self.plain.leaves[leave]["terms"][0] if leave in self.plain.leaves else "till"
        return ("take", self.signers(thing, self.one("", parent)), leave, parent, self.one("fall", "pass"))

    def sign(self, word):
        """Mostly by a hand of the leave's who, for an open asking."""
        asking, leave = self.asking(), self.leave()
        if asking in self.plain.askings and self.chance.random() < 0.7:
            fitting = [name for atom in self.plain.atoms(self.plain.rule(asking)) for name in self.plain.for_atom(asking, atom)]
            leave = self.one(*fitting) if fitting else leave
        meant = sorted(self.plain.meant(self.plain.leaves[leave]["terms"][2])) if leave in self.plain.leaves else []
        return (word, self.one(*meant, *meant, self.one(*HANDS)), asking, leave)

    def paper(self, asking, rule):
        """A paper for the rule, right or nearly."""
        if rule[0] == "some":
            numbers = self.some_of(range(len(rule[2])), rule[1], rule[1])
            return ("some", tuple((number, self.paper(asking, rule[2][number])) for number in numbers))
        parts = self.plain.parts(asking, rule) if asking in self.plain.askings else []
        if parts and self.chance.random() < 0.9:
            return self.one(*parts)
        leave = self.one(*LEAVES)
        chains = self.plain.chains(leave) + [(leave,)]
        return ("part", leave, self.one(*chains), self.some_of(HANDS))

    def near_paper(self, paper):
        """The paper with one thing in it changed."""
        if paper[0] == "some" and self.chance.random() < 0.7:
            rows = list(paper[1])
            at = self.chance.randrange(len(rows))
            rows[at] = (self.one(rows[at][0], rows[at][0], 0, 1, 2), self.near_paper(rows[at][1]))
            return ("some", tuple(rows if self.chance.random() < 0.8 else rows[1:] or rows))
        if paper[0] == "some":
            return paper[1][0][1]
        word, leave, chain, signers = paper
        leave = self.one(leave, leave, self.one(*LEAVES))
        chain = self.one(chain, chain, *self.plain.chains(leave), chain[:-1] or chain, chain + (self.one(*LEAVES),))
        return (word, leave, chain, self.one(signers, self.some_of(HANDS), signers[1:] or signers, signers[::-1]))

    def do(self):
        ready = [name for name in ASKINGS if name in self.plain.askings and self.plain.can(name, self.plain.rule(name))]
        asking = self.one(*(ready if ready and self.chance.random() < 0.7 else [self.asking()]))
        rule = self.plain.rule(asking) if asking in self.plain.askings else ("any",)
        return ("do", asking, self.paper(asking, rule))

    def entry(self, step):
        """What is done at this step: first what is there at all, then leaves and askings, then whatever."""
        if step < len(FIRST):
            return FIRST[step]
        return self.entry_of("give" if step < 20 else "ask" if step < 23 else self.one(*KINDS))

    def entry_of(self, word):
        if word in ("join", "quit"):
            return (word, self.one("team", "crew"), self.one(*HANDS, "eve"))
        if word == "seat":
            return (word, "chief", self.one(*HANDS, "eve"), self.one(1, 2, 5))
        if word == "unseat":
            return (word, "chief")
        if word == "rule":
            return (word, self.one(*THINGS, "none"), self.one(*DEEDS), self.one(None, self.rule(), self.rule()))
        if word == "apart":
            return (word, self.one(*THINGS, "none"), self.some_of(DEEDS, 2, 3))
        if word == "wait":
            return (word, self.one(1, 1, 2))
        if word == "ask":
            return (word, self.fresh(ASKINGS, self.plain.askings), self.one(*HANDS, "eve"), self.one(*DEEDS), self.one(*THINGS), self.one(*CASES), self.one(0, 5, 20))
        if word in ("sign", "unsign"):
            return self.sign(word)
        if word == "drop":
            return (word, self.one(*HANDS), self.asking())
        return {"give": self.give, "back": self.back, "take": self.take, "do": self.do}[word]()

    def put_some(self, words):
        """Puts an entry of each of these kinds where it is right."""
        for word in words:
            try:
                self.plain.put(self.entry_of(word))
            except Word:
                pass

    def near_lack(self, lack):
        """The lack with one thing in it changed."""
        rows = copy.deepcopy(lack)
        at = self.chance.randrange(len(rows))
        atom, shows = rows[at]
        kind = self.one("number", "row", "more", "show", "show", "show", "show", "show", "drop", "twice")
        if kind == "number":
            rows[at] = (self.one(0, 1, 2, 9, -1), shows)
        elif kind == "row":
            del rows[at]
        elif kind == "more":
            rows = sorted(rows + [(self.one(0, 1, 2, 3), [])])
        elif shows:
            which = self.chance.randrange(len(shows))
            name, word, told = shows[which]
            if kind == "drop":
                del shows[which]
            elif kind == "twice":
                shows.insert(which, shows[which])
            else:
                amount = self.one(0, 5, 20)
                barred = [leave for leave in LEAVES if self.plain.standing(leave) and not self.plain.usable(leave, amount)]
                names = self.one(told, tuple(barred), self.some_of(HANDS, 0, 2), self.some_of(LEAVES, 0, 3), tuple(LEAVES), told[1:], told + told)
                shows[which] = (self.one(name, name, self.one(*LEAVES)), self.one(word, word, "ended", "few", "barred"), names)
        return rows


class Walks(Case):
    def setUp(self):
        self.seen = collections.Counter()

    def step(self, walker, stand, entry):
        """The stand behind the entry, or the same one where it is refused, both as the plain reading has it."""
        told = copy.deepcopy((stand, entry))
        try:
            walker.plain.put(entry)
            word = None
        except Word as refused:
            word = refused.args[0]
        self.seen[entry[0], word] += 1
        if word is None:
            behind = put_to(stand, entry)
            self.alike(behind, walker.plain.stand())
        else:
            with self.assertRaises(Refused) as caught:
                put_to(stand, entry)
            self.assertEqual(caught.exception.word, word, entry)
            behind = stand
        self.assertEqual((stand, entry), told)
        return behind

    def look(self, walker, stand):
        """What is asked of the stand, answered as the plain reading has it."""
        plain = walker.plain
        for name in LEAVES:
            self.told(plain.standing(name), stands_now(stand, name))
            self.told(plain.opened(name), is_open(stand, name))
            self.alike(chains_of(stand, name), plain.chains(name))
            self.alike(chain_of(stand, name), min(plain.chains(name), key=lambda chain: (len(chain), chain), default=None))
        for name, row in plain.leaves.items():
            self.alike(hands_of(stand, row["terms"][2]), sorted(plain.meant(row["terms"][2])))
            self.told(plain.usable(name, 5), is_usable(stand, name, 5))
            for parent in row["parents"]:
                again = copy.deepcopy(plain)
                again.put_take((plain.things[row["terms"][0]],), name, parent, "fall")
                ended = [leave for leave in sorted(plain.leaves) if plain.standing(leave) and not again.standing(leave)]
                self.alike(hanging_on(stand, name, parent), ended)
        for hand in HANDS:
            self.told(plain.free(hand, "pay", "till", "c"), is_free(stand, hand, "pay", "till", "c"))

    def judge(self, walker, stand, asking):
        """Just one of both, a paper or a lack; and each of those near to them as the plain reading has it."""
        plain, rule = walker.plain, walker.plain.rule(asking)
        paper, lack = paper_of(stand, asking), lack_of(stand, asking)
        self.assertEqual(paper is not None, plain.can(asking, rule))
        self.assertEqual(lack is None, paper is not None)
        self.seen["judged", paper is not None] += 1
        if paper is not None:
            self.told(True, lets_by(stand, asking, paper))
            self.assertTrue(plain.lets(asking, paper))
            self.assertTrue(is_entry(("do", asking, paper)))
        else:
            self.told(True, is_lack(stand, asking, lack))
            self.assertTrue(plain.is_lack(asking, lack))
            for number, shows in lack:
                self.seen.update(("show", show[1]) for show in shows)
            for _ in range(12):
                near = walker.near_lack(lack)
                self.told(plain.is_lack(asking, near), is_lack(stand, asking, near))
                self.seen["lack", plain.is_lack(asking, near), near == lack] += 1
        for _ in range(6):
            near = walker.near_paper(paper or walker.paper(asking, rule))
            self.told(plain.lets(asking, near), lets_by(stand, asking, near))
            self.seen["paper", plain.lets(asking, near)] += 1

    def bounded(self, stand):
        """No leave is used more often, or for more, than it says."""
        for name, terms, parents, times, spent in stand[7]:
            self.assertTrue(terms[4] is None or times <= terms[4])
            self.assertTrue(terms[5] is None or spent <= terms[5])

    def walk(self, seed):
        walker, done = Walker(seed), []
        stand = first_stand()
        for step in range(STEPS):
            entry = walker.entry(step)
            self.assertTrue(is_entry(entry), entry)
            behind = self.step(walker, stand, entry)
            if behind != stand:
                done.append(entry)
            stand = behind
            self.bounded(stand)
            if step % 5 == 0:
                self.look(walker, stand)
            asking = walker.asking()
            if asking in walker.plain.askings and walker.plain.askings[asking]["state"] == "open":
                self.judge(walker, stand, asking)
        self.alike(stand_behind(done), stand)

    def test_walks(self):
        for seed in range(WALKS):
            with self.subTest(seed=seed):
                self.walk(seed)
        # The walks come to what they are for.
        words = {"give": "there leave closed few wider owner", "back": "leave closed few wider owner there", "take": "leave lacks few",
                 "ask": "there hand", "sign": "asking leave few there", "unsign": "asking lacks", "drop": "asking owner", "do": "asking paper"}
        for word, refusals in words.items():
            for refusal in [None, *refusals.split()]:
                self.assertGreater(self.seen[word, refusal], 0, (word, refusal))
        for key in (("judged", True), ("judged", False), ("show", "ended"), ("show", "few"), ("show", "barred"), ("paper", True),
                    ("paper", False), ("lack", True, False), ("lack", False, False)):
            self.assertGreater(self.seen[key], 0, key)


if __name__ == "__main__":
    unittest.main()
