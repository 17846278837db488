"""[11] rules as texts."""

import unittest

from leavebook.rules import is_rule
from leavebook.ruletexts import read_rule, rule_text
from tests import shapes
from tests.samples import NO_TEXTS, Case
from tests.test_rules import ANY, OF, RULES, WITH, deep, some, wide

ANN = ("of", (("hand", "ann"),))


class RuleTexts(Case):
    def test_written_and_read(self):
        self.written(rule_text, read_rule, [
            (ANY, "any"), (OF, "of @chief"), (WITH, "with see till"),
            (("of", (("group", "team"), ("hand", "ann"), ("office", "chief"))), "of +team,ann,@chief"),
            (some(2, ANY, OF, WITH), "2 (any; of @chief; with see till)"),
            (some(2, ANY, some(1, ANY, ANN)), "all (any; 1 (any; of ann))"),
            (some(1, ANY), "all (any)"),
            (some(1, ANY, ANY), "1 (any; any)"),
            (some(6, *[ANY] * 6), "all (any; any; any; any; any; any)"),
            (some(5, *[ANY] * 6), "5 (any; any; any; any; any; any)"),
            (some(1, some(1, ANY, ANN), some(2, WITH, ANY)), "1 (1 (any; of ann); all (with see till; any))"),
            (deep(5), "all (all (all (all (any))))"),
        ])

    def test_names_like_the_words(self):
        self.written(rule_text, read_rule, [
            (("with", "any", "all"), "with any all"), (("with", "of", "with"), "with of with"), (("of", (("hand", "any"),)), "of any"),
            (some(1, ("of", (("hand", "of"),)), ("with", "with", "some")), "1 (of of; with with some)"),
        ])

    def test_round(self):
        for rule in RULES + [wide(many) for many in range(2, 25)]:
            self.alike(read_rule(rule_text(rule)), rule)

    def test_refused_kinds(self):
        self.no_text(read_rule, NO_TEXTS)
        self.no_text(read_rule, [ANY, ("some", 1, (ANY,)), b"any", ["any"]])

    def test_refused_atoms(self):
        self.no_text(read_rule, [
            "", " ", "-", "Any", "any ", " any", "any\n", "\nany", "anya", "any any", "(any)", "any;", "any; any", "none", "of", "of ", "of -",
            "of ann,", "of bob,ann", "of  ann", "of ann ", "of ann\n", "of ann bob", "of +", "ofann", "ann", "@chief", "of abcdefg", "with",
            "with ", "with see", "with see ", "with  till", "with see  till", "with see till ", "with see till\n", "with see till a",
            "with see,pay till", "with abcdefg till", "with see abcdefg", "with see +till", "with 1 till", "With see till", "(of ann)",
            "a,b,c,d,e,f,g", "of a,b,c,d,e,f,g",
        ])

    def test_refused_somes(self):
        self.no_text(read_rule, [
            "all", "all ", "all ()", "all (", "all )", "all any", "all any)", "all (any", "all(any)", "all  (any)", "all (any) ", " all (any)",
            "all (any)\n", "all (any))", "all ((any))", "all ( any)", "all (any )", "all (any;)", "all (;any)", "all (any;any)", "all (any;  any)",
            "all (any ; any)", "all (any, any)", "all (any; )", "all (; any)", "all [any]", "(any)", "some (any)", "any (any)", "All (any)",
            "1 (any)", "0 (any)", "2 (any)", "2 (any; any)", "0 (any; any)", "3 (any; any)", "01 (any; any)", "1_ (any; any)", "-1 (any; any)",
            "+1 (any; any)", "1  (any; any)", "1(any; any)", "1 (any; any) any", "1 any; any", "all (any); any", "all (any)(any)",
            "all (any; all (any)", "all (any; all any))", "1 (any; 1 (any))", "all (any; any; any; any; any; any; any)", "1 all (any)",
            "6 (any; any; any; any; any; any)", "7 (any; any; any; any; any; any; any)", "2 (any; any)", "all 2 (any; any)",
            "all (any)any", "all x(any)", "all (any)x", "all xanyx", "1 (any; any\n)", "one (any; any)",
        ])

    def test_too_many(self):
        self.no_text(read_rule, [rule_text(wide(many)) for many in range(25, 31)])
        self.alike(read_rule(rule_text(wide(24))), wide(24))

    def test_too_deep(self):
        self.no_text(read_rule, [rule_text(deep(levels)) for levels in (6, 7, 20, 100)])
        self.no_text(read_rule, ["all (" * 399, "all (" * 330 + "any" + ")" * 330, "(" * 2000, ")" * 2000, "; " * 1000, "all (" + "any; " * 390 + "any)"])

    def test_near_texts(self):
        texts = ["any", "of +team,ann", "with see till", "2 (any; of @chief; with see till)", "all (any; 1 (any; of ann))", "all (all (any))"]
        self.near(rule_text, read_rule, is_rule, texts, shapes.is_rule)


if __name__ == "__main__":
    unittest.main()
