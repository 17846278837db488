"""What the tests share: whatever things, and texts that are near to a right one."""

import copy
import unittest

from leavebook.entries import is_entry
from leavebook.errors import NoText, Refused
from leavebook.puts import put_to

NAMED = {"key": 1}


def nested(deep):
    """A tuple so many deep."""
    thing = ()
    for _ in range(deep):
        thing = (thing,)
    return thing


# Nothing here is a name, a who, terms, a rule or an entry.
WHATEVER = [
    None, True, False, 0, 1, -1, 5, 10 ** 59,
    "", "ann\n", "\nann", "an n", " ann", "Ann", "ann1", "abcdefg", "a-b", "-", "+team", "@chief", "_", "\u00e9t\u00e9",
    b"", b"ann", [], [[]], ["ann"], [("hand", "ann")], {}, {"ann": 1}, set(), {"ann"}, frozenset(), range(3), object(), str,
    ((),), (None,), (True,), (1,), (1, "ann"), ("ann", 1), ("ann", None), ("ann", ["bob"]), ("ann", b"bob"), ([],), ({},),
    (set(),), ("",), ("ann\n",), ("ann", "ann"), ("bob", "ann"), ("ann", ("bob",)), (("ann",), "bob"), (NAMED, "ann"),
    nested(100), nested(100) + (1,),
]

# What is no text.
NO_TEXTS = [None, True, False, 0, 1, 12, b"", b"ann", b"any", [], ["ann"], ("ann",), (), {}, {"ann"}, object(), str]

SIGNS = "az- ,+@0129;()\nA_:>*"


def near_texts(text):
    """All texts with one sign fewer, more or another, or two exchanged, and some with more changed."""
    near = {"", text * 2, text + " " + text, text + "," + text, text.upper(), text[::-1], "(" + text + ")", "\n" + text}
    for at in range(len(text) + 1):
        head, tail = text[:at], text[at:]
        near.update([head, tail, head + tail[1:], head + tail[1:2] + tail[:1] + tail[2:]])
        near.update([head + sign + tail for sign in SIGNS])
        near.update([head + sign + tail[1:] for sign in SIGNS])
    words = text.split(" ")
    for at in range(len(words)):
        near.update([" ".join(words[:at] + words[at + 1:]), " ".join(words[:at] + words[at:at + 1] + words[at:])])
        near.add(" ".join(words[:at] + words[at + 1:at + 2] + words[at:at + 1] + words[at + 2:]))
    near.discard(text)
    return sorted(near)


def by_hands(entry):
    """The hands that make an entry of the kinds that hands do; None of another one."""
    places = {"give": 2, "back": 1, "take": 1, "ask": 2, "sign": 1, "unsign": 1, "drop": 1}
    if entry[0] == "do":
        return set()
    made = entry[places[entry[0]]] if entry[0] in places else None
    return {made} if isinstance(made, str) else made and set(made)


def rightly_done(stand, some, asked, row):
    """True of a row of entries by which some alone do what is asked, put to the stand one behind the other."""
    if not isinstance(row, list) or not all(is_entry(entry) for entry in row):
        return False
    if not all(by_hands(entry) is not None and by_hands(entry) <= set(some) for entry in row) or row[-1][0] != "do":
        return False
    asks = [entry for entry in row if entry[0] == "ask" and entry[1] == row[-1][1]]
    if len(asks) != 1 or asks[0][3:] != asked or asks[0][1] in [known[0] for known in stand[8]]:
        return False
    try:
        for entry in row:
            stand = put_to(stand, entry)
    except Refused:
        return False
    return [known[7] for known in stand[8] if known[0] == row[-1][1]] == ["done"]


class Case(unittest.TestCase):
    """Tests with some ways of asking more."""

    def told(self, answer, asked):
        """The answer is this truth, and nothing that only compares alike."""
        self.assertIs(asked, answer)

    def true_of(self, ask, things):
        for thing in things:
            with self.subTest(thing=thing):
                self.told(True, ask(thing))

    def false_of(self, ask, things):
        for thing in things:
            with self.subTest(thing=thing):
                self.told(False, ask(thing))

    def no_text(self, read, texts):
        for text in texts:
            with self.subTest(text=text):
                with self.assertRaises(NoText):
                    read(text)

    def written(self, write, read, rows):
        """Of each row (thing, text), the thing is written as the text, which is read to it."""
        for thing, text in rows:
            with self.subTest(text=text):
                self.assertEqual(write(thing), text)
                self.alike(read(text), thing)

    def behind(self, stand, *entries):
        """The stand behind the entries; what is handed in stays as it was."""
        for entry in entries:
            told = copy.deepcopy((stand, entry))
            after = put_to(stand, entry)
            self.assertEqual((stand, entry), told)
            stand = after
        return stand

    def refused(self, word, stand, *entries):
        """Each of the entries is refused with the word; what is handed in stays as it was."""
        for entry in entries:
            told = copy.deepcopy(stand)
            with self.subTest(entry=entry):
                with self.assertRaises(Refused) as caught:
                    put_to(stand, entry)
                self.assertEqual(caught.exception.word, word)
            self.assertEqual(stand, told)

    def alike(self, one, other):
        """Equal, with the same kinds of values all through."""
        self.assertEqual(one, other)
        self.assertEqual(repr(one), repr(other))

    def near(self, write, read, is_right, texts, expected=None):
        """Each text near to these is refused, or is written again by the right thing that it is read to.

        Where expected is told, it says of each text on its own whether it is right.
        """
        for text in texts:
            for other in near_texts(text):
                try:
                    thing = read(other)
                except NoText:
                    self.assertFalse(expected and expected(other), f"refused: {other!r}")
                    continue
                self.assertTrue(expected is None or expected(other), f"read: {other!r}")
                self.assertIs(is_right(thing), True, other)
                self.assertEqual(write(thing), other)
