"""[27] entries written and read."""

import copy
import unittest

from leavebook.entries import is_entry
from leavebook.entrytexts import entries_text, entry_text, read_entries, read_entry
from leavebook.ruletexts import read_rule
from leavebook.termtexts import read_terms
from tests import shapes
from tests.samples import NO_TEXTS, Case
from tests.test_entries import RIGHT
from tests.test_papertexts import HANDS, deep, part, some, wide
from tests.test_puts import ENTRIES

MANY = 10 ** 60 - 1
TERMS = "pay,see on till by 2 +team,ann most 3 total 100 from 2 to 9 pass 1"
RULE = "2 (any; of +team,ann,@chief; all (with see till; any))"

TEXTS = [
    (("hand", "ann"), "hand ann"), (("hand", "hand"), "hand hand"), (("join", "team", "ann"), "join team ann"), (("quit", "team", "ann"), "quit team ann"),
    (("seat", "chief", "ann", 5), "seat chief ann 5"), (("seat", "chief", "ann", MANY), f"seat chief ann {MANY}"), (("unseat", "chief"), "unseat chief"),
    (("thing", "till", "ann"), "thing till ann"),
    (("rule", "till", "pay", None), "rule till pay -"), (("rule", "till", "pay", ("any",)), "rule till pay any"),
    (("rule", "till", "pay", read_rule("of ann")), "rule till pay of ann"), (("rule", "till", "pay", read_rule("with see box")), "rule till pay with see box"),
    (("rule", "till", "pay", read_rule(RULE)), f"rule till pay {RULE}"),
    (("apart", "till", ("check", "pay")), "apart till check,pay"), (("apart", "till", tuple("abcdef")), "apart till a,b,c,d,e,f"),
    (("wait", 1), "wait 1"), (("wait", MANY), f"wait {MANY}"), (("wait", 10), "wait 10"),
    (("give", "a", ("ann",), "", read_terms("pay on till by 1 bob")), "give a ann - pay on till by 1 bob"),
    (("give", "b", ("ann", "bob"), "a", read_terms(TERMS)), f"give b ann,bob a {TERMS}"),
    (("give", "b", HANDS, "abcdef", read_terms(f"pay on till by 1 bob most {MANY} total {MANY} from {MANY - 1} to {MANY}")),
     f"give b {','.join(HANDS)} abcdef pay on till by 1 bob most {MANY} total {MANY} from {MANY - 1} to {MANY}"),
    (("back", ("ann",), "b", ""), "back ann b -"), (("back", ("ann", "bob"), "b", "a"), "back ann,bob b a"),
    (("take", ("ann",), "b", "a", "pass"), "take ann b a pass"), (("take", ("ann",), "b", "", "fall"), "take ann b - fall"),
    (("ask", "one", "ann", "pay", "till", "case", 30), "ask one ann pay till case 30"), (("ask", "one", "ann", "pay", "till", "case", 0), "ask one ann pay till case 0"),
    (("ask", "one", "ann", "pay", "till", "case", MANY), f"ask one ann pay till case {MANY}"),
    (("sign", "ann", "one", "a"), "sign ann one a"), (("unsign", "ann", "one", "a"), "unsign ann one a"), (("drop", "ann", "one"), "drop ann one"),
    (("do", "one", part("ca", "ann", "bob")), "do one c>a:ann,bob"), (("do", "one", some((0, part("a", "ann")), (2, some((0, part("b", "bob")))))), "do one (0 a:ann; 2 (0 b:bob))"),
    (("do", "one", deep(5)[0]), f"do one {deep(5)[1]}"), (("do", "one", wide(24)[0]), f"do one {wide(24)[1]}"),
]
# Each with a word that is none of its kind, or too few or too many.
WRONG = """|hand|hand |hand  ann|hand ann |hand ann bob| hand ann|Hand ann|hand Ann|hand abcdefg|hand ann1|hand -|hand *|hand ann,bob|hands ann|han ann|handann|hand-ann
join team|join team |join  ann|join team ann ann|join +team ann|quit team|quit team -|seat chief ann|seat chief ann 0|seat chief ann 05|seat chief ann -1|seat chief ann 1 1
seat chief ann x|seat chief ann +5|seat @chief ann 5|seat chief 5 ann|seat chief ann |unseat|unseat chief ann|unseat @chief|thing till|thing till -|thing till ann ann
rule till pay|rule till pay |rule till pay none|rule till pay None|rule till pay --|rule till pay - |rule till pay any |rule till pay  any|rule till - any|rule - pay any|rule till any|rule till pay ANY
rule till pay of|rule till pay of zoe,ann|rule till pay 2 (any; any)|rule till pay all (any|rule till pay *|apart till|apart till |apart till pay|apart till pay,check|apart till pay,pay
apart till -|apart till a,b,c,d,e,f,g|apart till check, pay|apart till check,pay,|apart till check pay|apart till check,abcdefg|wait|wait |wait 0|wait 01|wait -1|wait 1.0|wait one|wait 1 1|wait  1|wait 1e3
give a ann -|give a ann - |give a ann pay on till by 1 bob|give a - - pay on till by 1 bob|give a ann  pay on till by 1 bob|give a ann * pay on till by 1 bob|give a bob,ann - pay on till by 1 bob
give a ann,ann - pay on till by 1 bob|give - ann - pay on till by 1 bob|give a ann -  pay on till by 1 bob|give a ann - pay on till by 1 bob |give a ann - pay on till by 0 bob|give a ann - pay on till by 1
give a ann - pay,see on till by 1 bob pass 0|give a ann - see,pay on till by 1 bob|give a a,b,c,d,e,f,g,h,i - pay on till by 1 bob|give a ann - terms|give a,b ann - pay on till by 1 bob
back ann b|back ann b |back ann - a|back - b a|back b|back ann b a a|back ann b *|back bob,ann b a|take ann b a|take ann b a |take ann b a both|take ann b a Fall|take ann b  fall|take ann b fall
take - b a fall|take ann - a fall|take ann b a fall fall|take ann b * fall|take b a fall|ask one ann pay till case|ask one ann pay till case |ask one ann pay till case -1|ask one ann pay till case 00
ask one ann pay till case 030|ask one ann pay till case x|ask one ann pay till 30|ask one ann pay till case 30 30|ask one ann pay,see till case 30|ask - ann pay till case 30|ask one ann pay till case -
sign ann one|sign ann one -|sign ann one a a|sign ann,bob one a|sign - one a|unsign ann one|unsign ann one |drop ann|drop ann one one|drop ann -|do one|do one |do one -|do one a|do one a:|do one :ann
do one a: ann|do one a:ann |do one  a:ann|do one (a:ann)|do one (0 a:ann|do one (1 a:ann; 0 a:ann)|do - a:ann|do a:ann|do one any|do one a:bob,ann|do one a>b|undo one a:ann|none|-|*""".replace("\n", "|").split("|")


class Entries(Case):
    def test_written_and_read(self):
        before = copy.deepcopy(TEXTS)
        self.written(entry_text, read_entry, TEXTS)
        self.assertEqual(TEXTS, before)
        self.assertEqual({entry[0] for entry, text in TEXTS}, set(RIGHT))
        self.true_of(is_entry, [entry for entry, text in TEXTS])
        self.true_of(shapes.is_entry, [text for entry, text in TEXTS])

    def test_each_kind_again(self):
        for entry in [*RIGHT.values(), *ENTRIES]:
            self.alike(read_entry(entry_text(entry)), entry)

    def test_other_texts(self):
        self.no_text(read_entry, WRONG)
        self.false_of(shapes.is_entry, WRONG)

    def test_line_ends(self):
        for entry, text in TEXTS:
            self.no_text(read_entry, [text + "\n", "\n" + text, text.replace(" ", "\n", 1), text + "\n" + text, text + "\t"])

    def test_a_word_more_or_fewer_and_blanks(self):
        for entry, text in TEXTS:
            words = text.split(" ")
            near = [" ".join(words[:at] + [""] + words[at:]) for at in range(len(words) + 1)] + [text + " a", "a " + text, words[0], words[0] + " "]
            self.no_text(read_entry, near)

    def test_at_the_bounds_of_papers(self):
        self.no_text(read_entry, [f"do one {deep(6)[1]}", f"do one {wide(25)[1]}", "do one a>b>c>d>e>f>g:ann", "do one a:" + ",".join((*HANDS, "ida"))])

    def test_no_texts(self):
        self.no_text(read_entry, NO_TEXTS + [("hand", "ann"), ["hand", "ann"], b"hand ann"])

    def test_near_texts(self):
        texts = [text for entry, text in TEXTS if len(text) < 60]
        self.near(entry_text, read_entry, is_entry, texts, shapes.is_entry)


class Lists(Case):
    def test_written_and_read(self):
        entries = [entry for entry, text in TEXTS]
        self.written(entries_text, read_entries, [
            ([], ""), ([("hand", "ann")], "hand ann"), ([("wait", 1), ("wait", 1)], "wait 1\nwait 1"), (entries, "\n".join(text for entry, text in TEXTS)),
        ])
        self.alike(read_entries(entries_text(ENTRIES)), ENTRIES)

    def test_other_texts(self):
        self.no_text(read_entries, ["\n", " ", "-", "hand ann\n", "\nhand ann", "hand ann\n\nhand bob", "hand ann\n \nhand bob", "hand ann\nhand", "hand\nhand ann", "hand ann hand bob"])
        self.no_text(read_entries, ["hand ann; hand bob", "hand ann\n\n", "hand ann\r\nhand bob", "hand ann\x0bhand bob", "hand ann\nwait 0\nhand bob", "hand ann\thand bob"])

    def test_one_wrong_line(self):
        lines = [text for entry, text in TEXTS]
        for wrong in ("", "hand", "wait 0", "none", "hand ann "):
            for at in range(len(lines) + 1):
                self.no_text(read_entries, ["\n".join(lines[:at] + [wrong] + lines[at:])])

    def test_no_texts(self):
        self.no_text(read_entries, NO_TEXTS + [("hand", "ann"), [("hand", "ann")], b"hand ann"])

    def test_told_lists_are_the_askers_own(self):
        read_entries("hand ann").clear()
        read_entries("").append(1)
        self.assertEqual((read_entries("hand ann"), read_entries("")), ([("hand", "ann")], []))
        entries = [("hand", "ann")]
        entries_text(entries)
        self.assertEqual(entries, [("hand", "ann")])


if __name__ == "__main__":
    unittest.main()
