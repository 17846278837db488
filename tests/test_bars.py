"""[10] barring and trimming."""

import itertools
import unittest

from leavebook.bars import bars, trimmed
from leavebook.rules import atoms_of
from tests.samples import Case
from tests.test_rules import ANY, OF, RULES, WITH, holds_again, some


def lists_of(rule):
    """All rising lists of the rule's atoms."""
    many = len(atoms_of(rule))
    return [list(some) for size in range(many + 1) for some in itertools.combinations(range(many), size)]


def bars_again(rule, some):
    return not holds_again(rule, [at for at in range(len(atoms_of(rule))) if at not in some])[0]


def trimmed_again(rule, some):
    """To the letter: again and again, the least one without which they bar still."""
    while True:
        for atom in some:
            fewer = [at for at in some if at != atom]
            if bars_again(rule, fewer):
                some = fewer
                break
        else:
            return some


class Bars(Case):
    def test_told_by_hand(self):
        rule = some(2, ANY, OF, WITH)
        self.true_of(lambda atoms: bars(rule, atoms), [[0, 1], [0, 2], [1, 2], [0, 1, 2]])
        self.false_of(lambda atoms: bars(rule, atoms), [[], [0], [1], [2]])

    def test_none_and_all(self):
        for rule in RULES:
            self.told(False, bars(rule, []))
            self.told(True, bars(rule, list(range(len(atoms_of(rule))))))

    def test_every_list(self):
        for rule in RULES:
            for atoms in lists_of(rule):
                self.told(bars_again(rule, atoms), bars(rule, atoms))


class Trimmed(Case):
    def test_told_by_hand(self):
        rule = some(2, ANY, OF, WITH)
        self.assertEqual(trimmed(rule, [0, 1, 2]), [1, 2])
        self.assertEqual(trimmed(rule, [0, 2]), [0, 2])
        self.assertEqual(trimmed(some(2, ANY, some(1, OF, WITH)), [0, 1, 2]), [1, 2])
        self.assertEqual(trimmed(some(2, some(1, OF, WITH), ANY), [0, 1, 2]), [2])
        self.assertEqual(trimmed(some(3, ANY, OF, WITH), [0, 1]), [1])
        self.assertEqual(trimmed(ANY, [0]), [0])

    def test_every_list(self):
        for rule in RULES:
            for atoms in lists_of(rule):
                if bars_again(rule, atoms):
                    self.alike(trimmed(rule, atoms), trimmed_again(rule, atoms))

    def test_what_is_handed_in_stays(self):
        rule, atoms = some(2, ANY, OF, WITH), [0, 1, 2]
        told = trimmed(rule, atoms)
        self.assertEqual(atoms, [0, 1, 2])
        self.assertTrue(bars(rule, atoms))
        told.append(9)
        self.assertEqual(atoms, [0, 1, 2])
        self.assertEqual(trimmed(rule, atoms), [1, 2])

    def test_the_askers_own_where_nothing_is_left_out(self):
        atoms = [1, 2]
        told = trimmed(some(2, ANY, OF, WITH), atoms)
        self.assertEqual(told, [1, 2])
        told.clear()
        self.assertEqual(atoms, [1, 2])


if __name__ == "__main__":
    unittest.main()
