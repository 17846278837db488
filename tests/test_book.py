"""[2], [22] books: what they do, refuse and fill, the list of entries, and twins."""

import copy
import unittest

from leavebook.book import Book
from leavebook.checker import lets_by
from leavebook.errors import LeaveError, Refused
from leavebook.lacks import is_lack
from leavebook.puts import put_to, stand_behind
from leavebook.ruletexts import read_rule
from leavebook.stands import first_stand
from leavebook.termtexts import read_terms
from tests.samples import WHATEVER, Case
from tests.test_puts import BEHIND, ENTRIES

# What is there before an asking is signed.
READY = [
    ("hand", "ann"), ("hand", "bob"), ("hand", "cid"), ("thing", "till", "ann"),
    ("give", "a", ("ann",), "", read_terms("pay on till by 1 bob,cid most 2 total 50 pass 1")),
    ("ask", "one", "cid", "pay", "till", "case", 30), ("ask", "two", "cid", "pay", "till", "case", 30),
]
WRONG = [
    (("hand", "ann"), "there"), (("join", "team", "eve"), "hand"), (("unseat", "chief"), "lacks"), (("thing", "till", "bob"), "there"),
    (("rule", "none", "pay", None), "thing"), (("give", "b", ("bob",), "", read_terms("pay on till by 1 bob")), "owner"),
    (("give", "b", ("ann",), "z", read_terms("pay on till by 1 bob")), "leave"), (("give", "b", ("bob",), "a", read_terms("pay on till by 1 bob")), "wider"),
    (("take", ("bob",), "a", "", "fall"), "few"), (("sign", "ann", "one", "a"), "few"), (("drop", "ann", "one"), "owner"),
    (("do", "one", ("part", "a", ("a",), ("bob",))), "paper"), (("do", "none", ("part", "a", ("a",), ("bob",))), "asking"),
    (("wait", 0), "form"), (["wait", 1], "form"), ("wait 1", "form"), (None, "form"),
]


def book_of(*entries, first=READY):
    """A book of the first stand that has done these entries."""
    book = Book()
    for entry in [*first, *entries]:
        book.do(entry)
    return book


class Books(Case):
    def is_at(self, book, stand, entries):
        """The book has this stand and these entries."""
        self.alike(book.stand(), stand)
        self.alike(book.entries(), entries)

    def refuses(self, word, action, *told):
        with self.assertRaises(Refused) as caught:
            action(*told)
        self.assertIs(type(caught.exception), Refused)
        self.assertIsInstance(caught.exception, LeaveError)
        self.assertEqual(caught.exception.word, word)


class Doing(Books):
    def test_made(self):
        self.is_at(Book(), first_stand(), [])
        self.is_at(Book(None), first_stand(), [])
        self.is_at(Book(BEHIND), BEHIND, [])
        self.is_at(Book(first_stand()), first_stand(), [])

    def test_methods_stand_in_the_class_itself(self):
        for name in ("do", "fill", "stand", "entries", "twin"):
            self.assertIn(name, vars(Book))

    def test_each_kind_of_entry(self):
        book, stand = Book(), first_stand()
        for at, entry in enumerate(ENTRIES):
            self.assertIsNone(book.do(entry))
            stand = put_to(stand, entry)
            self.is_at(book, stand, ENTRIES[:at + 1])
        self.is_at(book, BEHIND, ENTRIES)

    def test_goes_on_from_a_stand(self):
        for at in range(len(ENTRIES)):
            book = Book(stand_behind(ENTRIES[:at]))
            for entry in ENTRIES[at:]:
                book.do(entry)
            self.is_at(book, BEHIND, ENTRIES[at:])

    def test_refused(self):
        book, stand = book_of(), stand_behind(READY)
        for entry, word in WRONG:
            with self.subTest(entry=entry):
                self.refuses(word, book.do, entry)
                with self.assertRaises(Refused) as caught:
                    put_to(stand, entry)
                self.assertEqual(caught.exception.word, word)
                self.is_at(book, stand, READY)
        book.do(("wait", 1))
        self.is_at(book, put_to(stand, ("wait", 1)), [*READY, ("wait", 1)])

    def test_whatever(self):
        book = Book(BEHIND)
        for thing in WHATEVER:
            with self.subTest(thing=thing):
                self.refuses("form", book.do, thing)
                self.is_at(book, BEHIND, [])

    def test_one_entry_twice(self):
        book = book_of(("wait", 2), ("wait", 2), first=[])
        self.is_at(book, (4,) + ((),) * 8, [("wait", 2), ("wait", 2)])

    def test_told_lists_are_the_askers_own(self):
        book = book_of()
        told = book.entries()
        told.append(("wait", 1))
        del told[0]
        self.is_at(book, stand_behind(READY), READY)
        again = book.entries()
        book.do(("wait", 1))
        self.assertEqual(again, READY)
        again.clear()
        self.assertEqual(book.entries(), [*READY, ("wait", 1)])

    def test_what_is_handed_in_stays(self):
        before = copy.deepcopy((BEHIND, READY))
        book = Book(BEHIND)
        book.do(("wait", 1))
        for entry in READY:
            Book(BEHIND).twin()
        self.assertEqual((BEHIND, READY), before)

    def test_a_told_stand_stays(self):
        book = book_of()
        told = book.stand()
        before = copy.deepcopy(told)
        book.do(("wait", 1))
        book.do(("sign", "bob", "one", "a"))
        self.assertEqual(told, before)

    def test_books_are_apart(self):
        one, other = Book(), Book()
        one.do(("hand", "ann"))
        self.is_at(other, first_stand(), [])


class Filling(Books):
    def test_done(self):
        book = book_of(("sign", "bob", "one", "a"))
        stand = book.stand()
        word, paper = book.fill("one")
        self.assertEqual(word, "done")
        self.told(True, lets_by(stand, "one", paper))
        self.alike(book.entries()[-1], ("do", "one", paper))
        self.is_at(book, put_to(stand, ("do", "one", paper)), [*READY, ("sign", "bob", "one", "a"), ("do", "one", paper)])
        self.assertEqual(book.stand()[8][0][7:], ("done", ("bob",)))
        self.assertEqual(book.stand()[7][0][3:], (1, 30))

    def test_a_tuple(self):
        self.assertIs(type(book_of(("sign", "bob", "one", "a")).fill("one")), tuple)
        self.assertIs(type(book_of().fill("one")), tuple)

    def test_lacks(self):
        book = book_of()
        word, lack = book.fill("one")
        self.assertEqual(word, "lacks")
        self.told(True, is_lack(book.stand(), "one", lack))
        self.is_at(book, stand_behind(READY), READY)
        self.alike(book.fill("one"), (word, lack))

    def test_lacks_when_another_used_it_up(self):
        book = book_of(("sign", "bob", "one", "a"), ("sign", "bob", "two", "a"))
        self.assertEqual(book.fill("one")[0], "done")
        stand, entries = book.stand(), book.entries()
        self.alike(book.fill("two"), ("lacks", [(0, [("a", "barred", ("a",))])]))
        self.is_at(book, stand, entries)

    def test_a_told_lack_is_the_askers_own(self):
        book = book_of(("rule", "till", "pay", read_rule("all (any; any)")))
        lack = book.fill("one")[1]
        again = copy.deepcopy(lack)
        for number, shows in lack:
            shows.clear()
        lack.clear()
        self.alike(book.fill("one")[1], again)

    def test_of_one_that_is_not_open(self):
        book = book_of(("sign", "bob", "one", "a"), ("drop", "cid", "two"))
        book.fill("one")
        stand, entries = book.stand(), book.entries()
        for name in ("none", "two", "one", "a", "cid"):
            with self.subTest(name=name):
                self.refuses("asking", book.fill, name)
                self.is_at(book, stand, entries)
        self.refuses("asking", Book().fill, "one")

    def test_signed_again_when_it_lacked(self):
        book = book_of()
        self.assertEqual(book.fill("two")[0], "lacks")
        book.do(("sign", "cid", "two", "a"))
        self.alike(book.fill("two"), ("done", ("part", "a", ("a",), ("cid",))))

    def test_a_rule_of_many(self):
        book = book_of(
            ("rule", "till", "pay", read_rule("2 (of ann; of bob; with pay till)")), ("sign", "bob", "one", "a"), ("sign", "cid", "one", "a"),
        )
        stand = book.stand()
        word, paper = book.fill("one")
        self.assertEqual((word, lets_by(stand, "one", paper)), ("done", True))
        self.assertEqual([number for number, inner in paper[1]], [1, 2])


class Twins(Books):
    def test_begins_with_the_same(self):
        book = book_of()
        twin = book.twin()
        self.assertIs(type(twin), Book)
        self.is_at(twin, book.stand(), book.entries())
        self.is_at(Book(BEHIND).twin(), BEHIND, [])
        self.is_at(Book().twin(), first_stand(), [])

    def test_each_goes_on_by_itself(self):
        book = book_of()
        twin = book.twin()
        book.do(("wait", 1))
        self.is_at(twin, stand_behind(READY), READY)
        twin.do(("sign", "bob", "one", "a"))
        twin.fill("one")
        self.is_at(book, stand_behind([*READY, ("wait", 1)]), [*READY, ("wait", 1)])
        self.assertEqual(twin.entries()[:-1], [*READY, ("sign", "bob", "one", "a")])
        self.assertEqual(twin.stand(), stand_behind(twin.entries()))
        book.do(("hand", "dan"))
        self.assertEqual(len(twin.entries()), len(READY) + 2)

    def test_what_one_refuses_the_other_does(self):
        book = book_of()
        twin = book.twin()
        book.do(("hand", "eve"))
        self.refuses("there", book.do, ("hand", "eve"))
        twin.do(("hand", "eve"))
        self.is_at(twin, book.stand(), book.entries())

    def test_a_twin_of_a_twin(self):
        book = book_of()
        twin = book.twin()
        twin.do(("wait", 1))
        third = twin.twin()
        third.do(("wait", 2))
        twin.do(("hand", "eve"))
        self.is_at(book, stand_behind(READY), READY)
        self.is_at(twin, stand_behind([*READY, ("wait", 1), ("hand", "eve")]), [*READY, ("wait", 1), ("hand", "eve")])
        self.is_at(third, stand_behind([*READY, ("wait", 1), ("wait", 2)]), [*READY, ("wait", 1), ("wait", 2)])


if __name__ == "__main__":
    unittest.main()
