"""[28] the desk: each row with each of its answers, and what is no row."""

import unittest

from leavebook.ahead import could
from leavebook.checker import lets_by
from leavebook.desk import Desk
from leavebook.entrytexts import entry_text, read_entries
from leavebook.errors import LeaveError, NoRow, NoText
from leavebook.papertexts import read_paper
from leavebook.standtexts import read_stand, stand_text
from tests import shapes
from tests.samples import NO_TEXTS, Case, near_texts
from tests.test_entrytexts import TEXTS, WRONG
from tests.test_puts import BEHIND, ENTRIES
from tests.test_standtexts import FULL
from tests.test_standtexts import TEXT as FULL_TEXT
from tests.test_standtexts import WRONG as WRONG_LINES

READY = """hand ann
hand bob
hand cid
hand dan
join team bob
join team cid
thing till ann
thing box bob
apart till check,pay
give a ann - check,pay on till by 1 ann most 5 total 100 pass 3
give b ann a check,pay on till by 2 +team most 3 total 100 pass 1
give c bob,cid b pay on till by 1 dan most 2 total 40
give w bob - see on box by 1 dan,@chief
give e ann - move on till by 1 +none
give z ann - pay on till by 1 bob
take ann z - fall
ask one cid pay till case 30
ask two cid pay till case 30"""

# What is asked of the desk, where nothing changes.
ASKED = ["fill none", "fill one", "lets one c>b>a:dan", "hands a", "room a", "chain a", "could ann pay till case 5", "could - pay till case 5", "could zoe pay till case 5",
         "fewest pay till case 5", "clashes", "stand", "entries"]


class Desks(Case):
    def desk(self, text=READY):
        """A desk that was told these rows."""
        desk = Desk()
        for row in text.split("\n"):
            self.assertEqual(desk.say(row), "ok", row)
        return desk

    def says(self, desk, row, answer):
        with self.subTest(row=row):
            told = desk.say(row)
            self.alike(told, answer)

    def stays(self, desk, rows, answer):
        """Each row has the answer, and changes nothing."""
        for row in rows:
            before = desk.say("stand"), desk.say("entries")
            self.says(desk, row, answer)
            self.assertEqual((desk.say("stand"), desk.say("entries")), before)

    def no_row(self, desk, rows):
        """Each row is refused, and changes nothing."""
        before = desk.say("stand"), desk.say("entries")
        for row in rows:
            with self.subTest(row=row):
                with self.assertRaises(NoRow) as caught:
                    desk.say(row)
                self.assertIs(type(caught.exception), NoRow)
                self.assertIsInstance(caught.exception, LeaveError)
        self.assertEqual((desk.say("stand"), desk.say("entries")), before)


class Made(Desks):
    def test_of_nothing(self):
        for desk in (Desk(), Desk(None)):
            self.says(desk, "stand", "now 0")
            self.says(desk, "entries", "")

    def test_of_a_text(self):
        for text in ("now 0", "now 3", FULL_TEXT, stand_text(BEHIND)):
            self.says(Desk(text), "stand", text)
            self.says(Desk(text), "entries", "")

    def test_of_another_text(self):
        for text in ["", "now", "now 0\n", "hand ann", "stand", *[f"now 0\n{line}" for line in WRONG_LINES]]:
            with self.subTest(text=text), self.assertRaises(NoText):
                Desk(text)

    def test_of_what_is_no_text(self):
        for thing in [thing for thing in NO_TEXTS if thing is not None] + [FULL, BEHIND]:
            with self.subTest(thing=thing), self.assertRaises(NoText):
                Desk(thing)

    def test_say_stands_in_the_class_itself(self):
        self.assertIn("say", vars(Desk))

    def test_desks_are_apart(self):
        one, other = Desk(), Desk()
        one.say("hand ann")
        self.says(other, "stand", "now 0")


class EntryRows(Desks):
    def test_each_kind(self):
        desk = Desk()
        for entry in ENTRIES:
            self.says(desk, entry_text(entry), "ok")
        self.says(desk, "stand", stand_text(BEHIND))
        self.says(desk, "entries", "\n".join(entry_text(entry) for entry in ENTRIES))

    def test_refused(self):
        desk = self.desk()
        rows = {
            "there": ["hand ann", "join team bob", "thing till bob", "apart till check,pay", "give a ann - pay on till by 1 bob", "give z ann - pay on till by 1 bob", "back ann b a", "ask one bob pay till case 1"],
            "hand": ["join team zoe", "quit team zoe", "seat chief zoe 3", "thing van zoe", "ask six zoe pay till case 1"],
            "lacks": ["quit team ann", "unseat chief", "take ann b - fall", "unsign dan one c"],
            "thing": ["rule van pay any", "rule van pay -", "apart van check,pay", "give x ann - pay on van by 1 bob", "ask six ann pay van case 1"],
            "leave": ["give x ann z pay on till by 1 bob", "back ann z a", "take ann z - pass", "sign bob one z", "sign bob one none"],
            "few": ["give x bob b pay on till by 1 bob most 3 total 100", "take dan c b fall", "sign dan one b"],
            "wider": ["give x bob,cid b pay on till by 1 dan", "give x bob,cid b see on till by 1 dan most 3 total 100"],
            "owner": ["give x bob - pay on till by 1 bob", "back bob b -", "drop ann one"],
            "asking": ["sign dan none c", "unsign dan none c", "drop cid none", "do none c>b>a:dan"],
            "paper": ["do one c>b>a:dan", "do one a:ann", "do one (0 c>b>a:dan)", "do one q:zoe"],
        }
        for word, texts in rows.items():
            self.stays(desk, texts, f"no {word}")

    def test_closed(self):
        desk = self.desk()
        self.says(desk, "give late ann - pay on till by 1 ann from 5 pass 1", "ok")
        self.stays(desk, ["give x ann late pay on till by 1 bob from 5"], "no closed")
        self.says(desk, "wait 5", "ok")
        self.says(desk, "give x ann late pay on till by 1 bob from 5", "ok")

    def test_done(self):
        desk = self.desk()
        self.says(desk, "sign dan one c", "ok")
        self.says(desk, "do one c>b>a:dan", "ok")
        self.stays(desk, ["do one c>b>a:dan", "drop cid one"], "no asking")

    def test_no_entries(self):
        # This one asks for the hands of a leave.
        self.no_row(self.desk(), [text for text in WRONG if text != "hands ann"])

    def test_right_in_form_but_of_an_empty_book(self):
        desk = Desk()
        for entry, text in TEXTS:
            self.assertRegex(desk.say(text), "\\A(ok|no [a-z]+)\\Z")


class Fill(Desks):
    def test_done(self):
        desk = self.desk()
        self.says(desk, "sign dan one c", "ok")
        stand = read_stand(desk.say("stand"))
        told = desk.say("fill one")
        word, text = told.split(" ", 1)
        self.assertEqual(word, "done")
        self.told(True, lets_by(stand, "one", read_paper(text)))
        self.assertEqual(told, "done c>b>a:dan")
        self.assertEqual(desk.say("entries").split("\n")[-1], "do one c>b>a:dan")
        self.stays(desk, ["fill one"], "no asking")

    def test_done_with_a_some(self):
        desk = self.desk()
        for row in ("rule till pay all (any; 1 (with see box; of zoe))", "sign dan one c", "sign dan one w"):
            self.says(desk, row, "ok")
        self.says(desk, "fill one", "done (0 c>b>a:dan; 1 (0 w:dan))")

    def test_lacks(self):
        desk = self.desk()
        self.stays(desk, ["fill one", "fill two"], "lacks 0")
        self.says(desk, "rule till pay 2 (any; of zoe; all (with see van; with see van); any)", "ok")
        numbers = [int(word) for word in desk.say("fill one").split(" ")[1:]]
        self.assertEqual(numbers, sorted(set(numbers)))
        self.says(desk, "rule till pay 1 (any; of zoe; with see van)", "ok")
        self.stays(desk, ["fill one"], "lacks 0 1 2")
        self.says(desk, "rule till pay all (with see van; any)", "ok")
        self.says(desk, "sign dan one c", "ok")
        self.stays(desk, ["fill one"], "lacks 0")

    def test_of_one_that_is_not_open(self):
        desk = self.desk()
        self.says(desk, "drop cid two", "ok")
        self.stays(desk, ["fill two", "fill none", "fill a"], "no asking")

    def test_no_rows(self):
        self.no_row(self.desk(), ["fill", "fill ", "fill one two", "fill  one", " fill one", "fill one ", "fill One", "fill abcdefg", "fill -", "fill one,two", "fill 1", "fills one", "FILL one", "fill\none", "fill one\n"])


class Lets(Desks):
    def test_yes_and_no(self):
        desk = self.desk()
        papers = ["c>b>a:dan", "c>b:dan", "c:dan", "c>b>a:bob", "b>a:bob,cid", "(0 c>b>a:dan)", "q:zoe"]
        self.stays(desk, [f"lets one {paper}" for paper in papers], "no")
        self.says(desk, "sign dan one c", "ok")
        self.stays(desk, ["lets one c>b>a:dan"], "yes")
        self.stays(desk, [f"lets one {paper}" for paper in papers[1:]] + ["lets two c>b>a:dan"], "no")

    def test_where_it_is_not_open(self):
        desk = self.desk()
        self.says(desk, "sign dan one c", "ok")
        self.says(desk, "fill one", "done c>b>a:dan")
        self.says(desk, "drop cid two", "ok")
        self.stays(desk, ["lets one c>b>a:dan", "lets two c>b>a:dan", "lets none c>b>a:dan"], "no")

    def test_with_a_some(self):
        desk = self.desk()
        for row in ("rule till pay all (any; any)", "sign dan one c"):
            self.says(desk, row, "ok")
        self.stays(desk, ["lets one (0 c>b>a:dan; 1 c>b>a:dan)"], "yes")
        self.stays(desk, ["lets one (0 c>b>a:dan)", "lets one c>b>a:dan"], "no")

    def test_no_rows(self):
        self.no_row(self.desk(), ["lets", "lets one", "lets one ", "lets c>b>a:dan", "lets one c>b>a", "lets one any", "lets one c>b>a:dan ", "lets one  c>b>a:dan", "lets one c>b>a:dan,bob", "lets - c>b>a:dan",
                                  "lets one (0 c:dan", "lets one (0 c:dan;1 c:dan)", "lets one (6 c:dan)", "lets one c:dan c:dan", "lets one -", "let one c:dan", "lets one c:-"])


class Leaves(Desks):
    def test_hands(self):
        desk = self.desk()
        for leave, hands in (("a", "ann"), ("b", "bob,cid"), ("c", "dan"), ("w", "dan"), ("e", "-")):
            self.stays(desk, [f"hands {leave}"], hands)
        self.says(desk, "seat chief ann 2", "ok")
        self.stays(desk, ["hands w"], "ann,dan")
        self.says(desk, "wait 2", "ok")
        self.stays(desk, ["hands w"], "dan")

    def test_room(self):
        desk = self.desk()
        for leave, room in (("a", "5 100"), ("b", "3 100"), ("c", "2 40"), ("w", "- -"), ("e", "- -")):
            self.stays(desk, [f"room {leave}"], room)
        self.says(desk, "sign dan one c", "ok")
        self.says(desk, "fill one", "done c>b>a:dan")
        for leave, room in (("a", "4 70"), ("b", "2 70"), ("c", "1 10"), ("w", "- -")):
            self.stays(desk, [f"room {leave}"], room)

    def test_room_with_one_bound(self):
        desk = self.desk()
        for row in ("give m ann - pay on till by 1 bob most 1", "give t ann - pay on till by 1 bob total 0", f"give u ann - pay on till by 1 bob total {10 ** 59} from 3", "sign bob one m"):
            self.says(desk, row, "ok")
        self.stays(desk, ["room m"], "1 -")
        self.stays(desk, ["room t"], "- 0")
        self.stays(desk, ["room u"], f"- {10 ** 59}")
        self.says(desk, "fill one", "done m:bob")
        self.stays(desk, ["room m"], "0 -")

    def test_chain(self):
        desk = self.desk()
        for leave, chain in (("a", "a"), ("b", "b>a"), ("c", "c>b>a"), ("w", "w")):
            self.stays(desk, [f"chain {leave}"], chain)
        self.says(desk, "back ann c -", "ok")
        self.assertIn(desk.say("chain c"), ("c", "c>b>a"))

    def test_of_one_that_does_not_stand(self):
        desk = self.desk()
        for word in ("hands", "room", "chain"):
            self.stays(desk, [f"{word} z", f"{word} none", f"{word} one"], "no leave")

    def test_no_rows(self):
        for word in ("hands", "room", "chain"):
            self.no_row(self.desk(), [word, f"{word} ", f"{word} a b", f"{word}  a", f"{word} a ", f" {word} a", f"{word} A", f"{word} abcdefg", f"{word} -", f"{word} a,b", f"{word} *", f"{word}\na"])


class Ahead(Desks):
    def test_can(self):
        desk = self.desk()
        stand = read_stand(desk.say("stand"))
        for hands in ("ann", "dan", "bob,cid", "ann,bob,cid,dan"):
            row = could(stand, hands.split(","), "pay", "till", "case", 30)[1]
            self.stays(desk, [f"could {hands} pay till case 30"], f"can {len(row)}")
        self.stays(desk, ["could dan pay till case 30"], "can 3")

    def test_never(self):
        desk = self.desk()
        self.stays(desk, ["could - pay till case 30", "could bob pay till case 30", "could cid pay till case 30", "could dan pay till case 41", "could ann pay van case 0", "could - pay van case 0"], "never")

    def test_no_hand(self):
        desk = self.desk()
        self.stays(desk, ["could zoe pay till case 30", "could ann,zoe pay till case 30", "could ann,zoe pay van case 30", "could a,b,c,d,e,f,g,h,i,j pay till case 30"], "no hand")

    def test_fewest(self):
        desk = self.desk()
        self.stays(desk, ["fewest pay till case 30", "fewest see till case 30"], "ann")
        self.stays(desk, ["fewest see box new 0"], "bob")
        for row in ("rule till pay all (of bob; of cid)", "rule till see of zoe"):
            self.says(desk, row, "ok")
        self.stays(desk, ["fewest pay till case 30"], "bob cid")
        self.stays(desk, ["fewest see till case 30", "fewest pay van case 30"], "none")

    def test_no_rows(self):
        rows = ["could", "could ann pay till case", "could ann pay till case 30 1", "could pay till case 30", "could  pay till case 30", "could ann,zoe, pay till case 30", "could bob,ann pay till case 30",
                "could ann,ann pay till case 30", "could ann bob pay till case 30", "could ann - till case 30", "could ann pay - case 30", "could ann pay till - 30", "could ann pay till case -", "could ann pay till case -1",
                "could ann pay till case 03", "could ann pay till case x", "could * pay till case 30", "could Ann pay till case 30", "could ann pay,see till case 30", "could ann pay till case 30 ",
                "fewest", "fewest pay till case", "fewest pay till case 30 1", "fewest pay till 30", "fewest - till case 30", "fewest pay till case 00", "fewest ann pay till case 30", "fewest pay till case -", "fewest  pay till case 30"]
        self.no_row(self.desk(), rows)


class Whole(Desks):
    def test_clashes(self):
        desk = self.desk()
        self.stays(desk, ["clashes"], "0")
        for row in ("ask sum ann check till case 0", "sign bob sum b", "sign cid sum b", "sign bob one b", "sign cid one b"):
            self.says(desk, row, "ok")
        self.says(desk, "fill sum", "done b>a:bob,cid")
        self.stays(desk, ["clashes"], "0")
        self.says(desk, "fill one", "lacks 0")
        for row in ("give p ann - move,see on till by 1 dan", "ask m ann move till case 0", "ask s ann see till case 0", "sign dan m p", "sign dan s p"):
            self.says(desk, row, "ok")
        self.assertEqual((desk.say("fill m"), desk.say("fill s")), ("done p:dan", "done p:dan"))
        self.says(desk, "apart till move,see", "ok")
        self.stays(desk, ["clashes"], "1")

    def test_stand(self):
        desk = self.desk()
        text = desk.say("stand")
        self.assertEqual(stand_text(read_stand(text)), text)
        self.assertEqual(text.split("\n")[:2], ["now 0", "hand ann"])

    def test_entries(self):
        desk = Desk()
        self.says(desk, "entries", "")
        rows = READY.split("\n")
        for at, row in enumerate(rows):
            desk.say(row)
            self.says(desk, "entries", "\n".join(rows[:at + 1]))
        desk.say("hand ann")
        self.says(desk, "entries", READY)
        self.assertEqual(len(read_entries(desk.say("entries"))), len(rows))

    def test_cut(self):
        desk, whole = self.desk(), self.desk()
        text = desk.say("stand")
        self.says(desk, "cut", "ok")
        self.says(desk, "stand", text)
        self.says(desk, "entries", "")
        self.says(desk, "cut", "ok")
        for row in ("sign dan one c", "hand ann", "fill one", "fill two", "room c", "could bob,cid pay till case 5", "wait 2", "stand", "clashes"):
            self.says(desk, row, whole.say(row))
        self.says(desk, "entries", "sign dan one c\ndo one c>b>a:dan\nwait 2")

    def test_cut_of_nothing(self):
        desk = Desk()
        self.says(desk, "cut", "ok")
        self.says(desk, "stand", "now 0")

    def test_no_rows(self):
        desk = self.desk()
        for word in ("clashes", "stand", "cut", "entries"):
            self.no_row(desk, [f"{word} ", f" {word}", f"{word} a", f"{word} -", f"{word}\n", word.upper(), word[:-1], word + "s", f"{word} {word}"])


class NoRows(Desks):
    def test_another_first_word(self):
        self.no_row(self.desk(), ["", " ", "  ", "\n", "none", "none ann", "done", "ok", "now 0", "in team ann", "leave a", "asking one", "papers", "twin", "say hand ann", "soonest ann pay till case 0 5", "help", "quit"])

    def test_what_is_no_text(self):
        self.no_row(self.desk(), NO_TEXTS + [("hand", "zoe"), ["hand", "zoe"], b"hand zoe"])

    def test_two_rows_at_once(self):
        self.no_row(self.desk(), ["hand zoe\nhand yan", "hand zoe; hand yan", "hand zoe\n", "stand\nstand"])

    def test_near_rows(self):
        desk = self.desk()
        self.assertEqual(desk.say("rule till see any"), "ok")
        for row in ASKED + ["cut", "lets one (0 c>b:dan; 2 a:ann,bob)", "could ann,bob pay till case 30"]:
            for near in near_texts(row):
                if shapes.is_row(near):
                    self.assertIs(type(desk.say(near)), str)
                else:
                    with self.subTest(near=near), self.assertRaises(NoRow):
                        desk.say(near)


if __name__ == "__main__":
    unittest.main()
