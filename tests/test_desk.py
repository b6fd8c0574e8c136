"""A desk: each row's answer (point 23), and desks by turns."""

import unittest

from jointseat.desk import Desk
from jointseat.errors import NoChange, NoHouse, NoLead, NoLetter, NoStanding

from beside import EVERY_QUESTION, Beside, all_told, outcome
from support import chance_of


def told(desk, *rows):
    return [desk.say(row) for row in rows]


def led_desk(standing="0,1,2/-/-"):
    desk = Desk()
    told(desk, f"begin {standing}", "calm 120")
    return desk, desk.say("leader")


def letters_of(desk):
    """The letters under way: numbers, and from whom to whom."""
    words = desk.say("letters").split()
    return list(zip(words[::2], words[1::2]))


class TestAnswers(unittest.TestCase):
    def test_a_new_desk(self):
        desk = Desk()
        self.assertEqual(told(desk, "letters", "record", "leader"), ["none", "none", "none"])
        for house in range(12):
            self.assertEqual(told(desk, f"house {house}", f"log {house}", f"sets {house}", f"waits {house}"),
                             ["awake follows 0 0 0", "none", "0,1,2/-/-", "none"])

    def test_each_kind_of_row(self):
        desk, leader = led_desk()
        self.assertEqual(leader, "0")
        self.assertEqual(told(desk, "house 0", "house 1", "house 3"),
                         ["awake leads 1 1 1", "awake follows 1 1 1", "awake follows 0 0 0"])
        self.assertEqual(told(desk, "ask 0 7", "ask 0 -12345", "ask 0 -0", "ask 0 99999"), ["2", "3", "4", "5"])
        self.assertEqual(told(desk, "log 0", "log 1", "record"), ["1:- 1:7 1:-12345 1:0 1:99999", "1:-", "1:-"])
        self.assertEqual(told(desk, "change 0 learner 3", "change 0 voter 3", "change 0 witness 9"), ["1", "1", "2"])
        self.assertEqual(told(desk, "waits 0", "waits 1", "sets 0", "sets 1"),
                         ["voter 3; witness 9", "none", "0,1,2/-/3", "0,1,2/-/-"])
        for row in ("beat 0", "calm 1", "calm 0", "stop 3", "wake 3", "stop 3", "stop 3", "wake 11"):
            self.assertEqual(desk.say(row), "ok")
        self.assertEqual(desk.say("house 3").split()[:2], ["asleep", "follows"])

    def test_letters(self):
        desk, _ = led_desk()
        desk.say("beat 0")
        letters = desk.say("letters").split()
        self.assertEqual([pair for pair in letters[1::2]], ["0>1", "0>2"])
        number = letters[0]
        self.assertEqual(desk.say(f"twice {number}"), "ok")
        self.assertEqual(desk.say("letters").split()[:4], letters)
        self.assertEqual(desk.say("letters").split()[5], "1>0")
        self.assertEqual(told(desk, f"deliver {number}", f"lose {letters[2]}"), ["ok", "ok"])
        self.assertEqual(desk.say("letters").split()[1::2], ["1>0", "1>0"])
        self.assertEqual([outcome(desk, f"{word} {number}") for word in ("deliver", "twice", "lose")], 3 * [NoLetter])

    def test_many_letters_under_way(self):
        desk, _ = led_desk("0,1,2,3,4,5,6/-/-")
        for _ in range(45):
            desk.say("beat 0")
        letters = desk.say("letters").split()
        self.assertEqual(len(letters), 2 * 45 * 6)
        numbers = [int(number) for number in letters[::2]]
        self.assertEqual(numbers, list(range(numbers[0], numbers[0] + 270)))
        self.assertEqual(letters[1::2], 45 * [f"0>{house}" for house in range(1, 7)])

    def test_log_with_all_kinds_of_entries(self):
        desk, leader = led_desk("0,1,2/8,9/-")
        told(desk, f"ask {leader} 5", f"change {leader} learner 7", f"ask {leader} -6", "calm 5")
        self.assertEqual(desk.say(f"log {leader}"), "1:- 1:5 1:S 1:-6")
        self.assertEqual(desk.say("log 9"), "1:- 1:? 1:S 1:?")
        self.assertEqual(desk.say("log 7"), "1:- 1:5 1:S 1:-6")
        self.assertEqual(desk.say("record"), "1:- 1:5 1:S 1:-6")

    def test_sets_of_two_standings(self):
        desk, leader = led_desk("0,1/8/5")
        told(desk, f"change {leader} leave 8", f"change {leader} leave 5")
        self.assertEqual(desk.say(f"sets {leader}"), "0,1/8/5+0,1/-/5")
        desk.say("calm 20")
        self.assertEqual(desk.say(f"sets {leader}"), "0,1/-/-")
        desk.say(f"change {leader} witness 11")
        self.assertEqual(desk.say(f"sets {leader}"), "0,1/-/-+0,1/11/-")

    def test_leader(self):
        desk, leader = led_desk()
        others = [house for house in "012" if house != leader]
        # One that leads hears nothing any more, and another one comes to lead in a greater term.
        for _ in range(40):
            told(desk, *[f"beat {house}" for house in others])
            for number, pair in letters_of(desk):
                desk.say(f"{'lose' if leader in pair else 'deliver'} {number}")
        now = desk.say("leader")
        self.assertIn(now, others)
        self.assertEqual(desk.say(f"house {leader}").split()[:3], ["awake", "leads", "1"])
        self.assertEqual(desk.say(f"house {now}").split()[1], "leads")
        desk.say(f"stop {now}")
        self.assertEqual(desk.say("leader"), leader)
        desk.say(f"stop {leader}")
        self.assertEqual(desk.say("leader"), "none")

    def test_record(self):
        desk, leader = led_desk("0,1,2/8/-")
        self.assertEqual(desk.say("record"), "1:-")
        told(desk, f"ask {leader} 4", f"ask {leader} 5")
        self.assertEqual(desk.say("record"), "1:-")
        seen = ["1:-"]
        desk.say(f"beat {leader}")
        while desk.say("letters") != "none":
            desk.say("deliver " + desk.say("letters").split()[0])
            if desk.say("record") != seen[-1]:
                seen.append(desk.say("record"))
        self.assertEqual(seen, ["1:-", "1:- 1:4 1:5"])
        told(desk, *[f"stop {house}" for house in range(12)])
        self.assertEqual(desk.say("record"), "1:- 1:4 1:5")
        told(desk, "calm 3", *[f"wake {house}" for house in range(12)])
        self.assertEqual(desk.say("record"), "1:- 1:4 1:5")
        self.assertEqual(told(desk, "begin 0,1,2/-/-", "record", "leader"), ["ok", "none", "none"])

    def test_asking_twice_is_told_the_same(self):
        desk, leader = led_desk("0,1,2/8/5")
        told(desk, f"ask {leader} 4", f"change {leader} voter 5", f"change {leader} leave 8", f"beat {leader}")
        self.assertEqual(all_told(desk), all_told(desk))

    def test_what_the_net_refuses(self):
        desk, leader = led_desk()
        other = next(house for house in "012" if house != leader)
        for row, kind in [("beat 12", NoHouse), ("stop 99999", NoHouse), ("wake 12", NoHouse), ("house 12", NoHouse),
                          ("log 12", NoHouse), ("sets 12", NoHouse), ("waits 12", NoHouse), ("ask 12 5", NoHouse),
                          ("change 12 leave 1", NoHouse), (f"ask {other} 5", NoLead), ("ask 11 5", NoLead),
                          (f"change {other} leave 99999", NoLead), (f"change {leader} leave 11", NoChange),
                          (f"change {leader} voter 99999", NoChange), (f"change {leader} witness 3", NoChange),
                          ("deliver 99999", NoLetter), ("lose 0", NoLetter), ("twice 0", NoLetter)]:
            before = all_told(desk)
            self.assertIs(outcome(desk, row), kind, row)
            self.assertEqual(all_told(desk), before)


def drawn_row(chance, beside):
    """A row that may be of use just now."""
    draw = chance.random()
    leader = beside.whole("leader")
    house = leader if leader != "none" and chance.random() < 0.8 else str(chance.randint(0, 12))
    letters = beside.net.letters()
    if draw < 0.3:
        return f"beat {chance.choice([leader, *'012345']) if leader != 'none' else chance.randint(0, 5)}"
    if draw < 0.62 and letters:
        return f"{chance.choice(['deliver', 'deliver', 'deliver', 'lose', 'twice'])} {chance.choice(letters)[0]}"
    if draw < 0.66:
        return f"calm {chance.choice([0, 1, 1, 3, 25])}"
    if draw < 0.72:
        return f"{chance.choice(['stop', 'wake', 'wake'])} {chance.randint(0, 12)}"
    if draw < 0.8:
        return f"ask {house} {chance.choice([0, 5, -5, '-0', 99999, -99999, 100000, '+1'])}"
    if draw < 0.9:
        word = chance.choice(["learner", "voter", "witness", "leave", "Voter"])
        return f"change {house} {word} {chance.randint(0, 12)}"
    if draw < 0.905:
        return chance.choice(["begin 2,1/8/-", "begin 0,1,2,3,4/-/7,6", "begin 0/8,9/-", "begin -/-/-", "begin 0//"])
    return chance.choice(EVERY_QUESTION + ["house 12", "deliver 99999", "", "beat", "letters "])


class TestBeside(unittest.TestCase):
    def test_drawn_rows(self):
        """Desks by turns, each held against a net and a watch that are told the same."""
        chance = chance_of(21)
        pairs = [(Desk(), Beside()) for _ in range(4)]
        for desk, beside in pairs[1:]:
            for row in (f"begin {chance.choice(['0,1,2/8/3', '4,3/9,8/-', '0,1,2,3,4,5,6/-/7'])}", "calm 120"):
                self.assertEqual(outcome(desk, row), outcome(beside, row))
        answers = set()
        for turn in range(3000):
            desk, beside = chance.choice(pairs)
            row = drawn_row(chance, beside)
            answer = outcome(desk, row)
            self.assertEqual(answer, outcome(beside, row), row)
            answers.add(answer)
            if turn % 20 == 0:
                self.assertEqual(all_told(desk), all_told(beside))
        for desk, beside in pairs:
            self.assertEqual(all_told(desk), all_told(beside))
        self.assertLessEqual({NoHouse, NoLead, NoChange, NoLetter, NoStanding, "ok", "1", "2", "none"}, answers)
        self.assertGreater(len(answers), 60)


class TestWhole(unittest.TestCase):
    def test_calm_settles_all_that_was_asked(self):
        for standing in ("0,1,2/-/-", "3/8,9/1", "2,0/10/-", "6,5,4,3,2/11,8/0,1,7"):
            desk = Desk()
            self.assertEqual(told(desk, f"begin {standing}", "calm 120"), ["ok", "ok"])
            leader = desk.say("leader")
            term = desk.say(f"house {leader}").split()[2]
            asked = [desk.say(f"ask {leader} {number}") for number in (5, -5, 0)]
            edits = [row for row in ("learner 7", "voter 7", "witness 10", "leave 8", "leave 3", "learner 2")
                     if row != f"leave {leader}" and row != f"learner {leader}"]
            edits = [row for row in edits if not isinstance(outcome(desk, f"change {leader} {row}"), type)]
            self.assertGreater(len(edits), 1)
            self.assertEqual(desk.say(f"calm {20 + 60 * len(edits)}"), "ok")
            self.assertEqual(desk.say("leader"), leader)
            _, _, now, long, settled = desk.say(f"house {leader}").split()
            self.assertEqual((now, long), (term, settled))
            log = desk.say(f"log {leader}")
            self.assertEqual(desk.say("record"), log)
            self.assertEqual([log.split()[int(place) - 1] for place in asked], [f"{term}:{n}" for n in (5, -5, 0)])
            self.assertEqual(told(desk, f"waits {leader}", "letters"), ["none", "none"])
            sets = desk.say(f"sets {leader}")
            self.assertNotIn("+", sets)
            for house in ",".join(sets.split("/")).replace("-", "").split(","):
                if house:
                    self.assertEqual(desk.say(f"house {house}").split()[3:], [long, long])
                    if int(house) < 8:
                        self.assertEqual(desk.say(f"log {house}"), log)

    def test_desks_by_turns(self):
        """What one desk is told is nothing to another one."""
        one, other, third = Desk(), Desk(), Desk()
        one.say("calm 120")
        other.say("begin 3,4/8/-")
        leader = one.say("leader")
        for number in range(5):
            told(one, f"ask {leader} {number}", "calm 1")
            other.say("calm 30")
        self.assertEqual(one.say("record"), "1:- 1:0 1:1 1:2 1:3 1:4")
        self.assertEqual(other.say("record"), "1:-")
        self.assertEqual(third.say("record"), "none")
        self.assertEqual(all_told(third), all_told(Desk()))


if __name__ == "__main__":
    unittest.main()
