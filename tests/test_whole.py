"""[2], [3] over the whole: books cut at any place, written and read back, go on alike; nothing handed in is changed."""

import copy
import unittest

from leavebook.ahead import could
from leavebook.apart import clashes
from leavebook.book import Book
from leavebook.chains import chain_of, chains_of, hanging_on
from leavebook.checker import lets_by, rule_of
from leavebook.desk import Desk
from leavebook.entrytexts import entries_text, entry_text, read_entries, read_entry
from leavebook.errors import Refused
from leavebook.fewest import fewest, soonest
from leavebook.hands import hands_of
from leavebook.lacks import is_lack, lack_of
from leavebook.nevers import is_never
from leavebook.orders import either_order
from leavebook.papers import paper_of
from leavebook.papertexts import paper_text, read_paper
from leavebook.puts import put_to, stand_behind
from leavebook.standtexts import read_stand, stand_text
from leavebook.uses import has_room, is_free, is_usable
from tests.samples import Case
from tests.test_walks import ASKINGS, HANDS, LEAVES, Walker

PAY = ("pay", "till", "c", 5)


def some_rows(walker):
    """Rows for a desk by chance, most of them of entries."""
    hands = ",".join(walker.some_of(HANDS)) if walker.chance.random() < 0.9 else "-"
    asked = f"{walker.one('pay', 'see', 'check')} {walker.one('till', 'box', 'van')} {walker.one('c', 'd')} {walker.one(0, 5, 20)}"
    leave, asking = walker.one(*LEAVES), walker.one(*ASKINGS)
    return [f"fill {asking}", f"fill {asking}", f"hands {leave}", f"room {leave}", f"chain {leave}", f"could {hands} {asked}", f"fewest {asked}", "clashes", f"lets {asking} {leave}:{walker.one(*HANDS)}"]


class Cut(Case):
    """Walks by chance, told to a desk that is cut at any place, and to a book that isn't."""

    def told_to(self, book, entry):
        """What the desk should answer of an entry."""
        try:
            book.do(entry)
        except Refused as refused:
            return f"no {refused.word}"
        return "ok"

    def filled(self, book, asking):
        """What the desk should answer of a fill."""
        try:
            word, told = book.fill(asking)
        except Refused as refused:
            return f"no {refused.word}"
        return f"done {paper_text(told)}" if word == "done" else " ".join(["lacks", *[str(number) for number, shows in told]])

    def walk(self, seed):
        walker, book, whole, cut = Walker(seed), Book(), Desk(), Desk()
        for step in range(110):
            entry = walker.entry(step)
            answer = self.told_to(book, entry)
            self.assertEqual(whole.say(entry_text(entry)), answer)
            self.assertEqual(cut.say(entry_text(entry)), answer)
            if answer == "ok":
                walker.plain.put(entry)
            row = walker.one(*some_rows(walker))
            told = whole.say(row)
            self.assertEqual(cut.say(row), told)
            if row.startswith("fill"):
                self.assertEqual(self.filled(book, row[5:]), told)
                if told.startswith("done"):
                    walker.plain.put(book.entries()[-1])
            self.assertEqual(cut.say("stand"), whole.say("stand"))
            self.alike(read_stand(cut.say("stand")), book.stand())
            if walker.chance.random() < 0.3:
                self.assertEqual(cut.say("cut"), "ok")
                self.assertEqual(cut.say("entries"), "")
            if walker.chance.random() < 0.1:
                cut = Desk(cut.say("stand"))
        self.alike(book.stand(), walker.plain.stand())
        self.assertEqual(whole.say("entries"), entries_text(book.entries()))
        self.alike(stand_behind(read_entries(whole.say("entries"))), book.stand())

    def test_walks(self):
        for seed in range(300, 325):
            with self.subTest(seed=seed):
                self.walk(seed)

    def test_cut_at_each_place(self):
        walker, book = Walker(7), Book()
        for step in range(120):
            entry = walker.entry(step)
            try:
                book.do(entry)
            except Refused:
                continue
            walker.plain.put(entry)
        entries = book.entries()
        self.assertGreater(len(entries), 40)
        for at in range(len(entries) + 1):
            text = stand_text(stand_behind(entries[:at]))
            again = Book(read_stand(text))
            for entry in read_entries(entries_text(entries[at:])):
                again.do(entry)
            self.alike(again.stand(), book.stand())
            self.alike(again.entries(), entries[at:])


class HandedIn(Case):
    """Nothing that is handed in is changed, and what is told is the asker's own."""

    def setUp(self):
        walker = Walker(11)
        for step in range(60):
            entry = walker.entry(step)
            try:
                walker.plain.put(entry)
            except Exception:
                continue
        self.stand, self.walker = walker.plain.stand(), walker
        self.opened = [row[0] for row in self.stand[8] if row[7] == "open"]
        self.leaves = [row[0] for row in self.stand[7]]
        self.assertTrue(self.opened and self.leaves)

    def asks(self):
        """All that can be asked of the stand: (what, arguments)."""
        leave, asking, some = self.leaves[0], self.opened[0], ["ann", "bob"]
        who = self.stand[7][0][1][2]
        rows = could(self.stand, [], *PAY)[1]
        entry = ("wait", 1)
        return [
            (put_to, self.stand, entry), (stand_behind, [("hand", "ann"), entry]), (hands_of, self.stand, who), (chains_of, self.stand, leave), (chain_of, self.stand, leave),
            *[(hanging_on, self.stand, row[0], parent) for row in self.stand[7] for parent in row[2]],
            (has_room, self.stand, leave, 5), (is_usable, self.stand, leave, 5), (is_free, self.stand, "ann", "pay", "till", "c"), (rule_of, self.stand, "pay", "till"),
            (lets_by, self.stand, asking, ("part", leave, (leave,), ("ann",))), (paper_of, self.stand, asking), (lack_of, self.stand, asking),
            (is_lack, self.stand, asking, lack_of(self.stand, asking) or []), (could, self.stand, some, *PAY), (could, self.stand, [], *PAY), (is_never, self.stand, [], *PAY, rows),
            (fewest, self.stand, *PAY), (soonest, self.stand, some, *PAY, 5), (either_order, self.stand, entry, ("hand", "zoe")), (clashes, self.stand), (stand_text, self.stand),
            (read_stand, stand_text(self.stand)), (entry_text, entry), (read_entry, "wait 1"), (entries_text, [entry, entry]), (read_entries, "wait 1\nwait 2"), (read_paper, "a:ann"),
        ]

    def test_stays_and_is_told_again(self):
        for ask, *handed in self.asks():
            before = copy.deepcopy(handed)
            told = ask(*handed)
            again = copy.deepcopy(told)
            self.assertEqual(handed, before, ask)
            self.spoil(told)
            self.assertEqual(ask(*handed), again, ask)
            self.assertEqual(handed, before, ask)

    def spoil(self, told):
        """Changes what was told as far as it can be changed."""
        if isinstance(told, (list, tuple)):
            for thing in told:
                self.spoil(thing)
        if isinstance(told, list):
            told.append("spoilt")

    def test_books(self):
        book = Book(self.stand)
        for asking in self.opened:
            told = book.fill(asking)
            again = copy.deepcopy(told)
            self.spoil(told)
            if again[0] == "lacks":
                self.assertEqual(book.fill(asking), again)
        self.spoil(book.entries())
        self.assertTrue(all(entry[0] == "do" for entry in book.entries()))


if __name__ == "__main__":
    unittest.main()
