"""[9] rules and their atoms; [10] holding."""

import copy
import itertools
import unittest

from leavebook.rules import atoms_of, holds, is_rule
from tests.samples import WHATEVER, Case, nested

ANY = ("any",)
OF = ("of", (("office", "chief"),))
WITH = ("with", "see", "till")


def some(wanted, *rules):
    return ("some", wanted, rules)


def deep(levels):
    """A rule so many deep."""
    rule = ANY
    for _ in range(levels - 1):
        rule = some(1, rule)
    return rule


def wide(many):
    """A rule with so many rules in it, itself counted, three deep at most."""
    rest, rules = many - 1, []
    while rest > 0:
        inner = min(rest, 7)
        rules.append(some(1, *[ANY] * (inner - 1)) if inner > 1 else ANY)
        rest -= inner
    return some(1, *rules)


def holds_again(rule, filled, first=0):
    """Holding said again in another way, with the number of the atom behind."""
    if rule[0] != "some":
        return first in filled, first + 1
    truths = []
    for part in rule[2]:
        truth, first = holds_again(part, filled, first)
        truths.append(truth)
    return sum(truths) >= rule[1], first


RULES = [
    ANY, OF, WITH, some(1, ANY), some(2, ANY, OF, WITH), some(2, ANY, some(1, ANY, OF)), some(1, some(2, ANY, ANY), some(2, ANY, ANY)),
    some(3, ANY, some(1, OF, WITH), some(2, ANY, OF, WITH), WITH), some(6, *[ANY] * 6), some(1, *[ANY] * 6), deep(5),
]


class Rules(Case):
    def test_rules(self):
        self.true_of(is_rule, RULES)
        self.true_of(is_rule, [("of", (("group", "a"), ("hand", "a"))), ("with", "a", "a"), ("with", "abcdef", "abcdef")])

    def test_no_rules(self):
        self.false_of(is_rule, WHATEVER)
        self.false_of(is_rule, [(), "any", ["any"], ("any", "any"), ("any", None), ("any", ()), ("Any",), ("any\n",), ("all",), ("of",), ("some",)])

    def test_of(self):
        self.false_of(is_rule, [
            ("of", "ann"), ("of", ()), ("of", ("hand", "ann")), ("of", [("hand", "ann")]), OF + (1,), OF + (ANY,), ("Of", OF[1]), ["of", OF[1]],
            ("of", (("hand", "b"), ("hand", "a"))), ("of", None), ("any", OF[1]), ("of", (("hand", "ann"), 1)),
        ])

    def test_with(self):
        self.false_of(is_rule, [
            ("with", "see"), ("with", "see", "till", "a"), ("with", "", "till"), ("with", "see", ""), ("with", "see", None), ("with", 1, "till"),
            ("with", ("see",), "till"), ("with", "see", "abcdefg"), ("wit", "see", "till"), list(WITH), ("of", "see", "till"), ("with", "see", "till\n"),
        ])

    def test_how_many_are_wanted(self):
        for many in range(1, 7):
            for wanted in range(-1, 9):
                self.told(1 <= wanted <= many, is_rule(some(wanted, *[ANY] * many)))
        self.false_of(is_rule, [("some", wanted, (ANY, ANY)) for wanted in (True, False, None, "1", (1,), [1], b"1", 10 ** 59)])

    def test_somes(self):
        self.false_of(is_rule, [
            ("some", 1, ()), ("some", 0, ()), some(1, *[ANY] * 7), ("some", 1, [ANY]), ["some", 1, (ANY,)], ("some", 1, ANY), ("some", 1, ANY, ANY),
            ("some", 1), ("some", (ANY,)), ("some", (ANY,), 1), ("some", 1, (ANY,), 1), ("all", 1, (ANY,)), ("Some", 1, (ANY,)), ("some", 1, None),
            ("some", 1, "any"), ("some", 1, {"any": 1}), ("some", 1, (["any"],)), some(1, ANY, None), some(1, ANY, "any"), some(1, ANY, ("of",)),
            some(1, ANY, some(2, ANY)), some(1, ANY, some(0, ANY)), some(1, ANY, some(1)), ("with", 1, (ANY,)), some(1, ()),
        ])

    def test_whatever_within(self):
        self.false_of(is_rule, [some(1, ANY, thing) for thing in WHATEVER])
        self.false_of(is_rule, [("some", thing, (ANY,)) for thing in WHATEVER if thing != 1 or thing is True])
        self.false_of(is_rule, [("of", thing) for thing in WHATEVER])
        self.false_of(is_rule, [("with", "see", thing) for thing in WHATEVER] + [("with", thing, "till") for thing in WHATEVER])
        self.false_of(is_rule, [(thing, 1, (ANY,)) for thing in WHATEVER])

    def test_twenty_four(self):
        for many in range(2, 31):
            self.told(many <= 24, is_rule(wide(many)))
        long = some(1, *[some(1, ANY, ANY, ANY)] * 5)
        self.told(True, is_rule(long))
        self.told(True, is_rule(("some", 1, long[2] + (some(1, ANY),))))
        self.told(True, is_rule(some(2, *[some(1, ANY, ANY, ANY)] * 5, some(1, ANY))))
        self.told(False, is_rule(some(2, *[some(1, ANY, ANY, ANY)] * 5, some(1, ANY, ANY, ANY))))

    def test_five_deep(self):
        for levels in range(1, 9):
            self.told(levels <= 5, is_rule(deep(levels)))
        self.told(False, is_rule(some(1, ANY, deep(5))))
        self.told(True, is_rule(some(1, deep(4), ANY, deep(4))))

    def test_a_hundred_deep(self):
        self.told(False, is_rule(deep(100)))
        broad = ANY
        for _ in range(99):
            broad = some(1, *[broad] * 6)
        self.told(False, is_rule(broad))
        self.told(False, is_rule(("some", 1, nested(98))))


class Atoms(Case):
    def test_from_the_left(self):
        self.assertEqual(atoms_of(ANY), [ANY])
        self.assertEqual(atoms_of(OF), [OF])
        self.assertEqual(atoms_of(WITH), [WITH])
        self.assertEqual(atoms_of(some(2, ANY, some(1, WITH, some(1, OF)), OF)), [ANY, WITH, OF, OF])
        self.assertEqual(atoms_of(some(1, ANY, ANY, ANY)), [ANY, ANY, ANY])

    def test_a_list_of_the_askers_own(self):
        rule = some(1, ANY, OF)
        told = atoms_of(rule)
        self.assertIsInstance(told, list)
        told.clear()
        atoms_of(ANY).append(OF)
        self.assertEqual(atoms_of(rule), [ANY, OF])
        self.assertEqual(atoms_of(ANY), [ANY])
        self.told(True, holds(rule, [1]))


class Holding(Case):
    def test_atoms(self):
        for atom in (ANY, OF, WITH):
            self.told(True, holds(atom, [0]))
            self.told(False, holds(atom, []))
            self.told(True, holds(atom, [0, 0]))

    def test_told_by_hand(self):
        rule = some(2, ANY, some(1, OF, WITH), OF)
        held = [[0, 1], [0, 2], [1, 3], [0, 3], [2, 3], [3, 2], [0, 1, 2, 3], [1, 2, 3]]
        self.true_of(lambda filled: holds(rule, filled), held)
        self.false_of(lambda filled: holds(rule, filled), [[], [0], [1], [2], [3], [1, 2], [2, 1], [0, 0], [1, 1, 2]])

    def test_every_list(self):
        for rule in RULES:
            many = len(atoms_of(rule))
            for truths in itertools.product((False, True), repeat=many):
                filled = [at for at in range(many) if truths[at]]
                right = holds_again(rule, filled)[0]
                self.told(right, holds(rule, filled))
                self.told(right, holds(rule, filled[::-1] + filled))

    def test_all_and_none(self):
        for rule in RULES:
            self.told(True, holds(rule, list(range(len(atoms_of(rule))))))
            self.told(False, holds(rule, []))

    def test_what_is_handed_in_stays(self):
        rule, filled = some(2, ANY, OF, WITH), [2, 0, 2]
        kept = copy.deepcopy(rule)
        self.told(True, holds(rule, filled))
        self.assertEqual((rule, filled), (kept, [2, 0, 2]))
        filled.clear()
        self.told(False, holds(rule, filled))
        self.told(True, holds(rule, [2, 0]))


if __name__ == "__main__":
    unittest.main()
