"""The forms of a desk's rows, near misses of them, and the beginning of a standing (point 24)."""

import unittest

from jointseat.desk import Desk
from jointseat.errors import NoChange, NoForm, NoHouse, NoLead, NoLetter, NoStanding, SeatError

from beside import Beside, all_told, outcome
from support import chance_of

# A good row of each kind.
ROWS = ["beat 1", "stop 2", "wake 2", "deliver 3", "lose 3", "twice 3", "calm 2", "ask 0 5", "ask 0 -5",
        "change 0 learner 6", "letters", "house 1", "log 1", "sets 1", "record", "waits 1", "leader", "begin 0,1/8/-"]
NO_NUMBERS = ["", "00", "01", "0000", "100000", "123456", "+1", "--1", "1.", "1_0", "0x1", "1e1", "a", "O", "-", ".",
              "1-", "\u0663", "\u00b2", "\uff11", "1\u0663", "\t1", "1\t", "1\n", "\n1", "1,", "none", "1/1"]


def busy_desk():
    """A desk with letters under way, edits that wait, and something settled."""
    desk = Desk()
    for row in ("begin 0,1,2/8/3", "calm 120", "ask 0 5", "change 0 voter 3", "change 0 leave 8", "beat 0", "beat 1"):
        desk.say(row)
    return desk


class FormCase(unittest.TestCase):
    def refused(self, desk, kind, row):
        """A refusal that changes nothing at all, numbers of letters yet to come among it."""
        before = all_told(desk)
        self.assertIs(outcome(desk, row), kind, repr(row))
        self.assertEqual(all_told(desk), before, repr(row))


class TestForms(FormCase):
    def test_good_rows(self):
        for row in ROWS:
            answer = outcome(busy_desk(), row)
            self.assertIn(type(answer) if isinstance(answer, str) else answer, (str, NoLetter), row)

    def test_blanks_and_other_signs(self):
        desk = busy_desk()
        for row in ROWS:
            for near in [" " + row, row + " ", row.replace(" ", "  "), row.replace(" ", "\t"), "\t" + row, row + "\t",
                         row + "\n", "\n" + row, row.replace(" ", "\n"), row + "\nletters", row + "\n" + row,
                         row.upper(), row.capitalize(), row + " 1", row + " x", row + ";", row[:-1] + "\u00a0",
                         row.replace(" ", "\u00a0"), row + "\r", row + "\x00", row[1:], "x" + row, row + row]:
                if near != row:
                    self.refused(desk, NoForm, near)

    def test_words_more_or_fewer(self):
        desk = busy_desk()
        for row in ROWS:
            words = row.split(" ")
            for place in range(len(words)):
                near = " ".join(words[:place] + words[place + 1:])
                self.refused(desk, NoForm, near)
                near = " ".join(words[:place + 1] + words[place:])
                self.refused(desk, NoForm, near)

    def test_strange_rows(self):
        desk = busy_desk()
        for row in ["", " ", "\n", "\t", "beats 1", "bea 1", "none", "ok", "house", "letter", "records", "0", "begin",
                    "-", "change 0", "change 0 voter", "change voter 0 3", "ask 0", "ask five 0", "read 0", "hand 0 1",
                    "beat 1 2", "letters 0", "record 0", "leader 0", "leaders", "calm", "calm -1", "x" * 4000,
                    "beat " * 800]:
            self.refused(desk, NoForm, row)

    def test_numbers(self):
        desk = busy_desk()
        for word in NO_NUMBERS:
            for row in [f"beat {word}", f"stop {word}", f"wake {word}", f"deliver {word}", f"lose {word}",
                        f"twice {word}", f"calm {word}", f"house {word}", f"log {word}", f"sets {word}",
                        f"waits {word}", f"ask {word} 5", f"ask 0 {word}", f"ask 0 -{word}", f"change {word} voter 3",
                        f"change 0 voter {word}", f"begin {word}/-/-", f"begin 0,{word}/-/-", f"begin 0/{word},8/-"]:
                # A part of none is of a good form.
                self.refused(desk, NoStanding if row == "begin -/-/-" else NoForm, row)

    def test_numbers_below_0(self):
        desk = busy_desk()
        for row in ["beat -1", "beat -0", "stop -1", "deliver -1", "lose -0", "twice -3", "calm -0", "house -1", "log -0",
                    "sets -1", "waits -1", "ask -0 5", "ask -1 5", "change -0 voter 3", "change 0 voter -3",
                    "begin -0/-/-", "begin 0,-1/-/-", "ask 0 - 5", "ask 0 -05", "ask 0 -00", "ask 0 --0",
                    "ask 0 -100000", "ask 0 +0", "ask 0 -"]:
            self.refused(desk, NoForm, row)

    def test_numbers_of_one_to_five_figures(self):
        desk = busy_desk()
        log = desk.say("log 0").split()
        for value, told in [("0", "0"), ("-0", "0"), ("9", "9"), ("10", "10"), ("-10", "-10"), ("99999", "99999"),
                            ("-99999", "-99999"), ("12340", "12340"), ("-1", "-1")]:
            log.append(f"1:{told}")
            self.assertEqual(desk.say(f"ask 0 {value}"), str(len(log)))
            self.assertEqual(desk.say("log 0"), " ".join(log))
        for row, kind in [("beat 12", NoHouse), ("beat 99999", NoHouse), ("beat 100000", NoForm),
                          ("deliver 99999", NoLetter), ("deliver 100000", NoForm), ("beat 11", "ok"), ("beat 0", "ok")]:
            self.assertEqual(outcome(desk, row), kind)

    def test_words_of_edits(self):
        desk = busy_desk()
        for word in ["", "learners", "Voter", "VOTER", "vote", "none", "leav", "kept", "voter,", "0", "learner\n"]:
            self.refused(desk, NoForm, f"change 0 {word} 4")
        for word, house, kind in [("learner", 4, "2"), ("voter", 4, "3"), ("witness", 9, "4"), ("leave", 4, "5"),
                                  ("witness", 4, NoChange), ("learner", 8, NoChange), ("voter", 9, NoChange),
                                  ("leave", 4, NoChange), ("leave", 12, NoChange), ("learner", 99999, NoChange)]:
            self.assertEqual(outcome(desk, f"change 0 {word} {house}"), kind)

    def test_which_refusal_goes_first(self):
        desk = busy_desk()
        for row, kind in [("change 1 voter 99999", NoLead), ("change 12 voter 99999", NoHouse),
                          ("change 12 voters 3", NoForm), ("change 0 voter 03", NoForm), ("ask 12 +5", NoForm),
                          ("ask 12 5", NoHouse), ("ask 1 5", NoLead), ("ask 1 05", NoForm),
                          ("begin 0,0/-", NoForm), ("begin 0,0/-/-\n", NoForm), ("begin 0,0/-/-", NoStanding),
                          ("begin 0,0/-/-/-", NoForm), ("begin 99/x/-", NoForm), ("house 012", NoForm)]:
            self.refused(desk, kind, row)

    def test_refusals_stand_under_seat_error(self):
        for row in ("", "begin -/-/-", "beat 12", "deliver 1", "ask 5 5"):
            self.assertTrue(issubclass(outcome(Desk(), row), SeatError))

    def test_refused_rows_between_leave_all_as_it_is(self):
        """The letters told later have the same numbers as where nothing was refused."""
        chance = chance_of(31)
        desk, beside = Desk(), Beside()
        rows = ["calm 120", "ask 0 3", "change 0 learner 5", "beat 0", "beat 1", "deliver 460", "calm 2", "beat 2",
                "change 0 voter 5", "stop 1", "beat 0", "calm 3", "wake 1", "calm 30", "beat 0"]
        for row in rows:
            for bad in chance.sample(["", "beat 12", "beat 01", "begin 0,0/-/-", "begin 8/-/-", "begin 0", "ask 0 +1",
                                      "ask 1 1", "change 0 voter 7", "change 0 leave 9", "deliver 99999", "calm 01",
                                      "lose 99999", "house 12", "stop 12", "wake 99"], 6):
                self.assertIsInstance(outcome(desk, bad), type)
            self.assertEqual(outcome(desk, row), outcome(beside, row), row)
            self.assertEqual(all_told(desk), all_told(beside), row)


class TestBegin(FormCase):
    def test_houses_in_any_order(self):
        for standing, told in [("2,0,1/-/-", "0,1,2/-/-"), ("7/11,8/3,0", "7/8,11/0,3"), ("0/-/-", "0/-/-"),
                               ("6,5,4,3,2,1,0/-/7", "0,1,2,3,4,5,6/-/7"), ("0,2/9,8,11,10/7,1", "0,2/8,9,10,11/1,7"),
                               ("3,1/-/2", "1,3/-/2"), ("0,1,2/8,9,10,11/-", "0,1,2/8,9,10,11/-")]:
            desk = busy_desk()
            self.assertEqual(desk.say(f"begin {standing}"), "ok")
            self.assertEqual({desk.say(f"sets {house}") for house in range(12)}, {told})
            self.assertEqual([desk.say(row) for row in ("letters", "record", "leader", "waits 0", "log 0", "house 0")],
                             ["none", "none", "none", "none", "none", "awake follows 0 0 0"])
            desk.say("calm 120")
            self.assertIn(desk.say("leader"), told.split("/")[0].split(","))

    def test_letters_are_numbered_anew(self):
        desk = busy_desk()
        desk.say("begin 0,1/-/-")
        while desk.say("letters") == "none":
            desk.say("beat 0")
        self.assertEqual(desk.say("letters").split()[0], "0")

    def test_no_form(self):
        desk = busy_desk()
        for standing in ["", "-", "/", "//", "0", "0/-", "0/-/-/-", "0//-", "0/-/", "/-/-", "0,/-/-", ",0/-/-",
                         "0,,1/-/-", "0/8,/-", "0/-/,3", "0,1/-/-+0,1,2/-/-", "0,1/-/-+", "+0,1/-/-", "0/-/-,",
                         "0;1/-/-", "0,-/-/-", "-,0/-/-", "--/-/-", "0 /-/-", "0, 1/-/-", "0/-/- ", "00/-/-",
                         "0,01/-/-", "100000/-/-", "a/-/-", "0/-/-\n", "0\n/-/-", "0/none/-", "0|-|-", "0/-/\u0663",
                         "(0)/-/-", "-1/-/-", "+1/-/-"]:
            self.refused(desk, NoForm, f"begin {standing}")

    def test_no_standing(self):
        desk = busy_desk()
        for standing in ["-/-/-", "-/8/-", "-/-/0", "0,0/-/-", "0/-/0", "0/8,8/-", "0/-/1,1", "0,1/8/1", "8/-/-",
                         "0,8/-/-", "0/7/-", "0/8,0/-", "0/-/8", "12/-/-", "0/12/-", "0/-/12", "99999/-/-",
                         "0/99999/-", "0,1,2,3,4,5,6,7/-/-", "0,1,2,3/8,9,10,11/-", "0,1,2,3,4,5,6/8/-"]:
            self.refused(desk, NoStanding, f"begin {standing}")

    def test_nothing_is_shown_behind_it(self):
        """What is told of a beginning is shown behind the first deed alone; nothing is settled ahead of it."""
        desk = busy_desk()
        self.assertEqual([desk.say("begin 0/-/-"), desk.say("record")], ["ok", "none"])
        for _ in range(30):
            desk.say("beat 0")
        self.assertEqual(desk.say("record"), "1:-")


if __name__ == "__main__":
    unittest.main()
