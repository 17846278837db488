"""[23] to [25] over many stands made by chance: compared with the plain reading, and with what hands bring about."""

import collections
import copy
import random
import unittest

from leavebook.ahead import could
from leavebook.entries import is_entry
from leavebook.errors import Refused
from leavebook.fewest import fewest, soonest
from leavebook.nevers import is_never
from leavebook.orders import either_order
from leavebook.puts import put_to
from tests.plain import Plain, Word
from tests.samples import Case, rightly_done
from tests.test_walks import CASES, DEEDS, HANDS, LEAVES, THINGS, Walker

WALKS, STEPS = 40, 90


def subsets(hands):
    """All rising lists of the hands, the fewest first, then as lists compare."""
    lists = [[hand for at, hand in enumerate(hands) if number >> at & 1] for number in range(2 ** len(hands))]
    return sorted(lists, key=lambda some: (len(some), some))


def near_rows(walker, rows):
    """The rows with one thing in them changed."""
    chance, rows = walker.chance, copy.deepcopy(rows)
    at = chance.randrange(len(rows))
    atom, shows = rows[at]
    kind = walker.one("number", "row", "more", "drop", "twice", "order", *["show"] * 9)
    if kind == "number":
        rows[at] = (walker.one(0, 1, 2, 9, -1), shows)
    elif kind == "row":
        del rows[at]
    elif kind == "more":
        rows = sorted(rows + [(walker.one(0, 1, 2, 3), [])])
    elif kind == "order":
        shows.reverse()
    elif shows:
        which = chance.randrange(len(shows))
        name, word, told = shows[which]
        if kind == "drop":
            del shows[which]
        elif kind == "twice":
            shows.insert(which, shows[which])
        else:
            shows[which] = near_show(walker, name, word, told)
    return rows


def near_show(walker, name, word, told):
    """The show with one thing in it changed."""
    plain = walker.plain
    if walker.chance.random() < 0.2:
        return (walker.one(name, *LEAVES), walker.one("ended", "few", "barred"), told)
    if walker.chance.random() < 0.3:
        terms = plain.leaves[name]["terms"]
        hands = tuple(sorted(plain.meant(terms[2])))
        return (name, "few", (walker.one((), hands, walker.some_of(HANDS, 0, 2)), walker.one((), hands, walker.some_of(HANDS, 0, 2))))
    if walker.chance.random() < 0.4:
        barred = tuple(leave for leave in LEAVES if plain.standing(leave) and not plain.usable(leave, 5))
        return (name, "barred", walker.one(barred, barred[1:], walker.some_of(LEAVES, 0, 3)))
    if word == "few":
        direct, able = told
        return (name, word, walker.one((direct[1:], able), (direct, able[1:]), (able, able), (direct, direct), (able, direct)))
    return (name, word, told[1:])


class Ahead(Case):
    def setUp(self):
        self.seen = collections.Counter()

    def asked(self, walker):
        """What is asked for by chance."""
        return (walker.one(*DEEDS), walker.one(*THINGS, *THINGS, *THINGS, "none"), walker.one(*CASES), walker.one(0, 5, 5, 20, 50))

    def look(self, walker, stand, some, asked):
        """Just one of both, each as the plain reading has it."""
        before = copy.deepcopy((stand, some))
        word, told = could(stand, some, *asked)
        self.assertEqual((stand, some), before)
        self.seen[word] += 1
        self.told(word == "never", is_never(stand, some, *asked, told if word == "never" else []))
        if word == "can":
            self.assertTrue(rightly_done(stand, some, asked, told))
            self.follow(walker, told)
        else:
            self.assertTrue(walker.plain.is_never(some, *asked, told))
            self.seen.update(("show", show[1]) for number, shows in told for show in shows)
            self.play(walker, some, asked)
        self.judge(walker, stand, some, asked, told if word == "never" else None)

    def follow(self, walker, row):
        """The row is right in the plain reading, too."""
        again = copy.deepcopy(walker.plain)
        for entry in row:
            again.put(entry)
            self.seen["row", entry[0]] += 1

    def judge(self, walker, stand, some, asked, rows):
        """Of rows near to right ones, right or not is told as the plain reading has it."""
        if rows is None:
            # What would be said of the first atoms if the hands were fewer.
            rows = could(stand, [], *asked)[1]
        for _ in range(8 if rows else 0):
            near = near_rows(walker, rows)
            truth = walker.plain.is_never(some, *asked, near)
            self.told(truth, is_never(stand, some, *asked, near))
            self.seen["near", truth, near == rows] += 1

    def play(self, walker, some, asked):
        """What some do by chance doesn't bring it about."""
        again = copy.deepcopy(walker.plain)
        self.assertFalse(again.brings(some, *asked))
        for step in range(4):
            moves = again.handings(some, f"new{'abcd'[step]}")
            walker.chance.shuffle(moves)
            for move in moves[:6]:
                try:
                    again.put(move)
                except Word:
                    continue
                self.seen["played", move[0]] += 1
                self.assertFalse(again.brings(some, *asked))
                break

    def least(self, walker, stand, asked):
        """The fewest are the first that could."""
        lists = [some for some in subsets(stand[1]) if could(stand, some, *asked)[0] == "can"]
        told = fewest(stand, *asked)
        self.assertEqual(None if told is None else told[0], lists[0] if lists else None)
        if told is not None:
            self.assertTrue(rightly_done(stand, told[0], asked, told[1]))

    def when(self, walker, stand, some, asked):
        """The soonest is the first turn at which they could."""
        bound = walker.one(0, 1, 4, 9)
        truths = [could(put_to(stand, ("wait", turns)) if turns else stand, some, *asked)[0] == "can" for turns in range(bound + 1)]
        told = soonest(stand, some, *asked, bound)
        self.alike(told, truths.index(True) if True in truths else None)
        self.seen["soonest", None if told is None else told > 0] += 1

    def both(self, walker, stand, one, other):
        """Two entries in either order, as the plain reading has it."""
        behind = []
        for entries in ((one, other), (other, one)):
            again = copy.deepcopy(walker.plain)
            try:
                for entry in entries:
                    again.put(entry)
                behind.append(again.stand())
            except Word:
                behind.append(None)
        ahead, later = behind
        word = "neither" if ahead == later is None else "first" if later is None else "second" if ahead is None else None
        word = word or ("alike" if ahead == later else "unlike")
        self.assertEqual(either_order(stand, one, other), word)
        self.seen[word] += 1
        if word == "unlike":
            self.assertTrue(may_be_unlike(stand, one, other) or may_be_unlike(stand, other, one), (one, other))

    def walk(self, seed):
        walker = Walker(seed)
        stand = walker.plain.stand()
        for step in range(STEPS):
            entry = walker.entry(step)
            try:
                walker.plain.put(entry)
                stand = put_to(stand, entry)
            except Word:
                continue
            asked, some = self.asked(walker), list(walker.some_of(HANDS, 0, 4))
            if step > 15 and step % 2:
                self.look(walker, stand, [hand for hand in some if hand in stand[1]], asked)
            if step > 15 and step % 12 == 0:
                self.least(walker, stand, asked)
            if step > 9 and step % 3 == 0:
                self.when(walker, stand, some, asked)
            if step > 15:
                self.both(walker, stand, walker.entry(step), walker.entry(step))

    def test_walks(self):
        for seed in range(WALKS):
            with self.subTest(seed=seed):
                self.walk(seed)
        # The walks come to what they are for.
        keys = ["can", "never", ("show", "ended"), ("show", "few"), ("show", "barred"), ("row", "give"), ("row", "sign"), ("soonest", True),
                ("soonest", False), ("soonest", None), ("near", True, False), ("near", False, False), ("played", "give"), ("played", "back"),
                ("played", "take"), "alike", "first", "second", "neither", "unlike"]
        for key in keys:
            self.assertGreater(self.seen[key], 0, key)


def may_be_unlike(stand, one, other):
    """True of the pairs that the promise names, the one the wait, a rule or the take with pass."""
    if one[0] == "wait":
        return other[0] == "seat"
    if one[0] == "rule":
        return other[:3] == one[:3] and other != one
    if one[0] != "take" or one[4] != "pass":
        return False
    leave, parent = one[2:4]
    if other[0] in ("give", "back", "take") and other[3] == leave:
        return True
    hangs = {row[0] for row in stand[7] if leave in row[2]}
    return other[0] == "take" and other[2] in hangs and other[3] == parent


class Web:
    """A small stand of many leaves by one thing, from a seed, where nearly all may be handed on by all."""

    def __init__(self, seed):
        self.chance = random.Random(seed)
        self.plain = Plain()
        for entry in [("hand", "ann"), ("hand", "bob"), ("thing", "till", "ann")]:
            self.plain.put(entry)
        for name in "abcd":
            self.put(self.give(name, self.chance.choice(["", *self.plain.leaves])))
        for _ in range(9):
            self.put(self.chance.choice([move for move in self.moves("e") if move[0] != "take" or self.chance.random() < 0.1]))

    def give(self, name, parent):
        on = self.plain.leaves[parent]["terms"][8] - 1 if parent else self.chance.randint(2, 4)
        terms = ("till", ("pay",), (("hand", "ann"), ("hand", "bob")), 1, None, None, 0, None, max(on, 0))
        return ("give", name, ("ann",), parent, terms)

    def moves(self, new):
        """All gives, backs and takes by ann that name what is there."""
        names = ["", *self.plain.leaves]
        moves = [self.give(new, parent) for parent in names]
        moves += [("back", ("ann",), child, parent) for child in names[1:] for parent in names]
        takes = [(child, parent) for child in names[1:] for parent in self.plain.leaves[child]["parents"]]
        return moves + [("take", ("ann",), *pair, how) for pair in takes for how in ("fall", "pass")]

    def put(self, entry):
        try:
            self.plain.put(entry)
        except Word:
            pass


class Orders(Case):
    def kind(self, stand, one, other):
        """Which of the ways by which unlike comes."""
        if other[3] == one[2]:
            return other[0]
        return "by the parent that is passed on"

    def test_all_pairs_of_handings(self):
        seen = collections.Counter()
        for seed in range(30):
            web = Web(seed)
            stand, moves = web.plain.stand(), web.moves("f") + web.moves("g")[:len(web.plain.leaves) + 1]
            for at, one in enumerate(moves):
                for other in moves[at:]:
                    word = either_order(stand, one, other)
                    seen[word] += 1
                    if word == "unlike":
                        pairs = [pair for pair in ((one, other), (other, one)) if may_be_unlike(stand, *pair)]
                        self.assertTrue(pairs, (stand, one, other))
                        seen["unlike", self.kind(stand, *pairs[0])] += 1
        for key in ("alike", "first", "second", "neither", *[("unlike", way) for way in ("give", "back", "take", "by the parent that is passed on")]):
            self.assertGreater(seen[key], 0, key)


class Searched(Case):
    """Small stands, where all that some can do with leaves, up to two handings, is tried."""

    def reached(self, plain, some, deep):
        """This stand and all stands that some reach from it by so many handings."""
        reached = [plain]
        if deep:
            for move in plain.handings(some, "new" + "xyz"[deep]):
                again = copy.deepcopy(plain)
                try:
                    again.put(move)
                except Word:
                    continue
                reached.extend(self.reached(again, some, deep - 1))
        return reached

    def test_just_where_handings_bring_it_about(self):
        seen = collections.Counter()
        for seed in range(60):
            walker = Walker(1000 + seed)
            for step in range(14):
                entry = walker.entry(step)
                try:
                    walker.plain.put(entry)
                except Word:
                    continue
            some = list(walker.some_of(HANDS, 0, 3))
            walker.put_some(["wait", "rule", "rule", "apart"])
            for asked in (("pay", "till", "c", 5), ("see", "box", "c", 20)):
                brought = any(plain.brings(some, *asked) for plain in self.reached(walker.plain, some, 2 if seed % 4 == 0 else 1))
                told = could(walker.plain.stand(), some, *asked)[0]
                # One handing may be too few for a rule of many atoms.
                self.assertTrue(told == "can" or not brought, (seed, asked))
                seen[told, brought] += 1
        for key in (("can", True), ("never", False)):
            self.assertGreater(seen[key], 10, key)


if __name__ == "__main__":
    unittest.main()
