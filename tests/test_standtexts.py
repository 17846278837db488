"""[13], [27] stands written and read."""

import copy
import itertools
import unittest

from leavebook.puts import put_to, stand_behind
from leavebook.ruletexts import read_rule
from leavebook.stands import first_stand
from leavebook.standtexts import read_stand, stand_text
from tests import shapes
from tests.made import asking, leave, stand_of
from tests.samples import NO_TEXTS, Case
from tests.test_puts import BEHIND, ENTRIES

FULL = stand_of(
    now=3, hands=["ann", "bob", "cid"], groups=[("team", "ann"), ("team", "bob"), ("crew", "cid")], seats=[("chief", "ann", 9), ("clerk", "ann", 10 ** 60)],
    things=[("till", "ann"), ("box", "bob")], rules=[("till", "pay", read_rule("2 (any; of @chief; with see till)")), ("till", "check", ("any",)), ("box", "see", read_rule("of ann"))],
    aparts=[("till", ("check", "pay")), ("till", ("check", "pay", "see")), ("till", ("a", "b")), ("box", ("pay", "see"))],
    leaves=[
        leave("a", "pay,see on till by 2 +team,ann most 3 total 100 from 2 to 9 pass 1", ["", "b"], 2, 60), leave("b", "pay on till by 1 bob", [""]),
        leave("c", "pay on till by 1 bob", []), leave("d", "pay on till by 1 bob", ["a", "b"], 0, 10 ** 79),
    ],
    askings=[
        asking("one", "ann", case="one", amount=30, signs=[("bob", "b"), ("ann", "a"), ("ann", "d")], state="done", signers=["ann", "bob"]),
        asking("two", "bob", state="dropped", signs=[("ann", "a")]), asking("three", "bob", amount=10 ** 60 - 1),
    ],
)
TEXT = f"""now 3
hand ann
hand bob
hand cid
in crew cid
in team ann
in team bob
seat chief ann 9
seat clerk ann {10 ** 60}
thing box bob
thing till ann
rule box see of ann
rule till check any
rule till pay 2 (any; of @chief; with see till)
apart box pay,see
apart till a,b
apart till check,pay
apart till check,pay,see
leave a *,b 2 60 pay,see on till by 2 +team,ann most 3 total 100 from 2 to 9 pass 1
leave b * 0 0 pay on till by 1 bob
leave c - 0 0 pay on till by 1 bob
leave d a,b 0 {10 ** 79} pay on till by 1 bob
asking one ann pay till one 30 done ann,bob ann:a,ann:d,bob:b
asking three bob pay till case {10 ** 60 - 1} open - -
asking two bob pay till case 0 dropped - ann:a"""
LINES = TEXT.split("\n")

# Lines that are none; each stands alone behind now.
WRONG = """|hand|hand |hand ann |hand  ann| hand ann|hand Ann|hand abcdefg|hand ann bob|hand -|hands ann|Hand ann|in team|in team |in ann|in team ann ann|in +team ann|in team -|join team ann
seat chief ann|seat chief ann |seat chief ann 01|seat chief ann -|seat chief ann -1|seat chief ann x|seat chief ann 1 1|seat @chief ann 1|thing till|thing till -|thing till ann ann|thing till *
rule till pay|rule till pay |rule till pay -|rule till pay none|rule till pay any |rule till any|rule till pay  any|rule till pay 2 (any; any)|rule till pay of zoe,ann|apart till|apart till pay|apart till pay,check
apart till pay,pay|apart till -|apart till a,b,c,d,e,f,g|apart till a, b|leave a *|leave a * 0 0|leave a * 0 0 |leave a * 0 pay on till by 1 bob|leave a 0 0 pay on till by 1 bob|leave a  0 0 pay on till by 1 bob
leave a * 00 0 pay on till by 1 bob|leave a * 0 00 pay on till by 1 bob|leave a * 0 -1 pay on till by 1 bob|leave a * - - pay on till by 1 bob|leave a b,* 0 0 pay on till by 1 bob|leave a *,* 0 0 pay on till by 1 bob
leave a b,b 0 0 pay on till by 1 bob|leave a c,b 0 0 pay on till by 1 bob|leave a -,b 0 0 pay on till by 1 bob|leave a *,- 0 0 pay on till by 1 bob|leave a , 0 0 pay on till by 1 bob|leave a ,b 0 0 pay on till by 1 bob
leave a b, 0 0 pay on till by 1 bob|leave a ** 0 0 pay on till by 1 bob|leave - * 0 0 pay on till by 1 bob|leave a * 0 0 pay on till by 1 bob |leave a * 0 0  pay on till by 1 bob|leave a * 0 0 pay on till by 7 bob
leave a *b 0 0 pay on till by 1 bob|leave a abcdefg 0 0 pay on till by 1 bob|leave a * 0 0 pay on till by 1 bob pass 0|leave a * 0 0 0 pay on till by 1 bob|asking one ann pay till case 0 open -
asking one ann pay till case 0 open - |asking one ann pay till case 0 open  -|asking one ann pay till case 0 - -|asking one ann pay till case 00 open - -|asking one ann pay till case - open - -
asking one ann pay till case 0 shut - -|asking one ann pay till case 0 Open - -|asking one ann pay till case 0 open - - -|asking one ann pay till case 0 open ann|asking one ann pay till case 0 done bob,ann -
asking one ann pay till case 0 done ann,ann -|asking one ann pay till case 0 done * -|asking one ann pay till case 0 open - ann|asking one ann pay till case 0 open - ann:|asking one ann pay till case 0 open - :a
asking one ann pay till case 0 open - ann:a:b|asking one ann pay till case 0 open - ann:b,ann:a|asking one ann pay till case 0 open - ann:a,ann:a|asking one ann pay till case 0 open - bob:a,ann:a
asking one ann pay till case 0 open - ann:a,|asking one ann pay till case 0 open - ann:*|asking one ann pay till case 0 open - ann:a, bob:a|asking one ann pay till case 0 open -,ann ann:a|asking one ann pay till case 0 open - -,ann:a
asking - ann pay till case 0 open - -|asking one ann pay till 0 open - -|asking one ann pay till case case 0 open - -|now 3|now|wait 3|none""".replace("\n", "|").split("|")
# Lines that would not come of the first stand, but are of the form.
FREE = """seat chief zoe 0|seat chief ann 2|thing till zoe|in team zoe|rule van pay any|apart van pay,see|leave a a 0 0 pay on van by 1 bob|leave a z 0 0 pay on till by 1 bob|leave a - 9 9 pay on till by 1 bob most 1
leave a *,a,b,c,d,e,f,g,h,i,j 0 0 pay on till by 1 bob|asking one zoe pay van case 0 open ann,bob -|asking one zoe pay van case 0 dropped ann zoe:zzzzzz|asking one ann pay till case 0 done - -
asking one ann pay till case 0 done a,b,c,d,e,f,g,h,i,j -""".replace("\n", "|").split("|")


class Stands(Case):
    def test_the_first_one(self):
        self.written(stand_text, read_stand, [(first_stand(), "now 0")])

    def test_written_and_read(self):
        before = copy.deepcopy(FULL)
        self.written(stand_text, read_stand, [(FULL, TEXT), ((3, *((),) * 8), "now 3"), ((10 ** 79, *((),) * 8), f"now {10 ** 79}")])
        self.assertEqual(FULL, before)
        self.told(True, shapes.is_stand(TEXT))

    def test_stands_that_come_of_the_first_one(self):
        for at in range(len(ENTRIES) + 1):
            stand = stand_behind(ENTRIES[:at])
            self.alike(read_stand(stand_text(stand)), stand)
            self.assertEqual(stand_text(read_stand(stand_text(stand))), stand_text(stand))
        self.assertEqual(read_stand(stand_text(BEHIND)), BEHIND)

    def test_large_numbers_that_come_of_what_is_told(self):
        many = 10 ** 60 - 1
        stand = stand_behind([("hand", "ann")] + [("wait", many)] * 30 + [("seat", "chief", "ann", many)])
        for _ in range(4):
            stand = put_to(stand, ("wait", many - 1))
            stand = put_to(put_to(stand, ("unseat", "chief")), ("seat", "chief", "ann", stand[0]))
        self.assertGreater(stand[3][0][2], 10 ** 61)
        self.alike(read_stand(stand_text(stand)), stand)
        huge = (10 ** 3999, *((),) * 8)
        self.alike(read_stand(stand_text(huge)), huge)

    def test_each_line_alone(self):
        for line in LINES[1:]:
            self.assertEqual(stand_text(read_stand(f"now 0\n{line}")), f"now 0\n{line}")

    def test_some_lines_left_out(self):
        for at in range(1, len(LINES)):
            text = "\n".join(LINES[:at] + LINES[at + 1:])
            self.assertEqual(stand_text(read_stand(text)), text)

    def test_whether_it_comes_of_the_first_one_is_not_asked(self):
        for line in FREE:
            with self.subTest(line=line):
                self.assertEqual(stand_text(read_stand(f"now 5\n{line}")), f"now 5\n{line}")

    def test_other_lines(self):
        self.no_text(read_stand, [f"now 0\n{line}" for line in WRONG])
        self.false_of(shapes.is_stand, [f"now 0\n{line}" for line in WRONG])

    def test_now_first_and_once(self):
        self.no_text(read_stand, ["", "now", "now ", "now 00", "now 01", "now -1", "now x", "now 0 0", " now 0", "now  0", "now 0 ", "Now 0", "0", "hand ann", "hand ann\nnow 0", "now 0\nnow 0", "now 0\nnow 1"])

    def test_line_ends(self):
        self.no_text(read_stand, ["now 0\n", "\nnow 0", "now 0\n\nhand ann", "now 0\nhand ann\n", "now 0\nhand ann\n\n", "now 0\r\nhand ann", "now 0\x0bhand ann", "now 0 hand ann", TEXT + "\n", "\n" + TEXT])
        for at in range(len(LINES) + 1):
            self.no_text(read_stand, ["\n".join(LINES[:at] + [""] + LINES[at:])])

    def test_lines_twice(self):
        for at in range(len(LINES)):
            self.no_text(read_stand, ["\n".join(LINES[:at + 1] + LINES[at:]), "\n".join(LINES + [LINES[at]])])

    def test_lines_out_of_order(self):
        for one, other in itertools.combinations(range(len(LINES)), 2):
            lines = list(LINES)
            lines[one], lines[other] = lines[other], lines[one]
            self.no_text(read_stand, ["\n".join(lines)])

    def test_two_lines_of_one_name(self):
        pairs = [
            ("seat chief ann 9", "seat chief bob 9"), ("seat chief ann 8", "seat chief ann 9"), ("thing till ann", "thing till bob"), ("rule till pay any", "rule till pay of ann"),
            ("leave a * 0 0 pay on till by 1 bob", "leave a * 0 0 pay on till by 1 cid"), ("leave a * 0 0 pay on till by 1 bob", "leave a b 0 0 pay on till by 1 bob"),
            ("asking one ann pay till case 0 open - -", "asking one bob pay till case 0 open - -"), ("asking one ann pay till case 0 done - -", "asking one ann pay till case 0 open - -"),
        ]
        for one, other in pairs:
            self.no_text(read_stand, [f"now 0\n{one}\n{other}", f"now 0\n{other}\n{one}"])

    def test_a_word_more_or_fewer(self):
        for at, line in enumerate(LINES):
            words = line.split(" ")
            near = [words[:cut] + words[cut + 1:] for cut in range(len(words))] + [words[:cut] + [""] + words[cut:] for cut in range(len(words) + 1)]
            for other in [" ".join(near_words) for near_words in near] + [line + " a", line + " 0", line + " -"]:
                text = "\n".join(LINES[:at] + [other] + LINES[at + 1:])
                if shapes.is_stand(text):
                    self.assertEqual(stand_text(read_stand(text)), text)
                else:
                    self.no_text(read_stand, [text])

    def test_no_texts(self):
        self.no_text(read_stand, NO_TEXTS + [first_stand(), FULL, TEXT.encode(), LINES])

    def test_near_texts(self):
        texts = ["now 0", "now 12\nhand ann\nhand bob", "now 1\nin team ann\nseat chief ann 9", "now 0\nthing till ann\nrule till pay 1 (any; of ann)", "now 0\napart till a,b\napart till a,b,c",
                 "now 0\nleave a *,b 10 0 pay on till by 1 bob to 9", "now 0\nleave c - 0 0 pay on till by 1 bob", "now 0\nasking one ann pay till one 30 done ann,bob ann:a,ann:d", "now 0\nasking two bob pay till case 0 open - -"]
        self.near(stand_text, read_stand, lambda stand: read_stand(stand_text(stand)) == stand, texts, shapes.is_stand)


if __name__ == "__main__":
    unittest.main()
