"""Houses by themselves: what they hold, tell and refuse (points 14, 15 and 16)."""

import unittest

from jointseat.errors import NoChange, NoLead, SeatError
from jointseat.house import House

from support import as_lists, chance_of, form_of, refusal_of

ALONE = ((0,), (), ())
THREE = ((0, 1, 2), (), ())
BIG = 10 ** 30 - 1


class Table:
    """Some houses and the letters between them, each by its own letters."""

    def __init__(self, first, numbers=range(12), handed=lambda thing: thing):
        self.handed = handed
        self.houses = {number: House(number, handed(first)) for number in numbers}
        self.letters = []

    def beat(self, number):
        self.send(self.houses[number].beat())

    def send(self, told):
        self.letters.extend(told)
        return [to for to, _ in told]

    def deliver(self, place=0):
        to, letter = self.letters.pop(place)
        if to in self.houses:
            return self.send(self.houses[to].take(self.handed(letter)))
        return []

    def round(self, rounds=1):
        for _ in range(rounds):
            for number in self.houses:
                self.beat(number)
            while self.letters:
                self.deliver()

    def leader(self):
        leaders = [house for house in self.houses.values() if house.leads()]
        return max(leaders, key=lambda house: house.term()) if leaders else None


def told_of(house):
    return (house.awake(), house.leads(), house.term(), house.log(), house.settled(), house.sets(), house.waiting(),
            house.reads())


def led_table(first, **more):
    table = Table(first, **more)
    table.round(120)
    return table


def lone_leader():
    house = House(0, ALONE)
    for _ in range(120):
        house.beat()
    return house


def some_edit(chance):
    return (chance.choice(["learner", "voter", "witness", "leave"]), chance.randint(0, 11))


def some_deeds(seed, many):
    """Deeds for a table, as numbers and words alone."""
    chance = chance_of(seed)
    for _ in range(many):
        draw = chance.random()
        if draw < 0.5:
            yield "deliver", chance.random()
        elif draw < 0.9:
            yield "round" if chance.random() < 0.05 else "beat", chance.randint(0, 11)
        elif draw < 0.93:
            yield chance.choice(["stop", "wake"]), chance.randint(0, 11)
        else:
            yield "ask", chance.choice(["ask", "change", "read", "hand"]), chance.randint(0, 99), some_edit(chance)


def ask(table, word, number, edit):
    house = table.leader()
    if house is None:
        return None
    asked = {"ask": number, "change": edit, "hand": number // 12}
    try:
        return house.read() if word == "read" else getattr(house, word)(asked[word])
    except SeatError as refusal:
        return type(refusal)


def do(table, deed):
    """Do a deed at a table; tell all that comes of it."""
    if deed[0] == "deliver" and table.letters:
        table.deliver(int(deed[1] * len(table.letters)))
    elif deed[0] == "beat":
        table.beat(deed[1])
    elif deed[0] == "round":
        table.round()
    elif deed[0] in ("stop", "wake"):
        getattr(table.houses[deed[1]], deed[0])()
    elif deed[0] == "ask":
        return ask(table, *deed[1:])
    return None


class TestTheSameTold(unittest.TestCase):
    def test_two_that_are_told_the_same_tell_the_same(self):
        for seed in range(12):
            one = Table(THREE)
            other = Table(THREE, handed=as_lists)
            for deed in some_deeds(seed, 600):
                self.assertEqual(do(one, deed), do(other, deed))
                self.assertEqual(one.letters, other.letters)
                if len(one.letters) > 200:
                    one.letters, other.letters = one.letters[100:], other.letters[100:]
            for number in range(12):
                self.assertEqual(told_of(one.houses[number]), told_of(other.houses[number]))
                self.assertEqual(form_of(told_of(one.houses[number])), form_of(told_of(other.houses[number])))

    def test_letters_are_texts_numbers_and_tuples_of_such(self):
        def see(letter):
            self.assertIn(type(letter), (str, int, tuple))
            if type(letter) is tuple:
                for part in letter:
                    see(part)

        seen = 0
        for seed in range(6):
            table = Table(THREE)
            for deed in some_deeds(seed, 500):
                do(table, deed)
                for told in table.letters[-12:]:
                    self.assertIs(type(told), tuple)
                    to, letter = told
                    self.assertIn(to, range(12))
                    see(letter)
                    seen += 1
                table.letters = table.letters[-100:]
        self.assertGreater(seen, 1000)

    def test_told_lists_are_the_askers_own(self):
        house = lone_leader()
        house.change(["learner", 1])
        house.ask(5)
        table = led_table(THREE)
        leader = table.leader()
        for edit in (("learner", 3), ("voter", 3), ("learner", 4)):
            leader.change(edit)
        for asked in (house, leader):
            asked.read()
            expected = repr(told_of(asked))
            for told in (asked.log(), asked.waiting(), asked.reads(), asked.beat()):
                self.assertIs(type(told), list)
                told.append(7)
                told.reverse()
            self.assertEqual(repr(told_of(asked)), expected)

    def test_handed_lists_are_copied(self):
        first = [[0], [], []]
        house = House(0, first)
        for _ in range(120):
            house.beat()
        first[0].append(1)
        self.assertEqual(house.sets(), (ALONE,))
        edit = ["learner", 3]
        house.change(edit)
        edit[1] = 4
        self.assertEqual(house.sets(), (((0,), (), (3,)),))
        self.assertEqual(form_of(house.sets()), form_of((((0,), (), (3,)),)))

    def test_a_waiting_edit_is_copied(self):
        house = led_table(THREE).leader()
        house.change(("learner", 3))
        edits = [["voter", 3], ["witness", 9]]
        self.assertEqual([house.change(edit) for edit in edits], [1, 2])
        edits[0][1] = 5
        edits[1].append(7)
        self.assertEqual(house.waiting(), [("voter", 3), ("witness", 9)])
        self.assertEqual([type(edit) for edit in house.waiting()], [tuple, tuple])

    def test_a_letter_handed_in_as_lists_is_copied(self):
        table = led_table(THREE)
        leader = table.leader()
        leader.change(("learner", 3))
        to, letter = [told for told in leader.beat() if told[0] == 2][0]
        handed = as_lists(letter)
        table.houses[to].take(handed)
        expected = told_of(table.houses[to])

        def spoil(thing):
            for part in thing:
                if type(part) is list:
                    spoil(part)
            thing.clear()

        spoil(handed)
        self.assertEqual(told_of(table.houses[to]), expected)
        self.assertEqual(expected[3], leader.log())
        self.assertEqual(form_of(expected[3]), form_of(leader.log()))


class TestStates(unittest.TestCase):
    def test_a_new_house(self):
        for number in range(12):
            house = House(number, THREE)
            self.assertEqual(told_of(house), (True, False, 0, [], 0, (THREE,), [], []))
            self.assertEqual(form_of(told_of(house)), form_of((True, False, 0, [], 0, (THREE,), [], [])))

    def test_asleep_it_does_and_tells_nothing(self):
        table = led_table(THREE)
        leader = table.leader()
        leader.ask(7)
        table.round()
        leader.change(("learner", 3))
        leader.change(("voter", 3))
        letters = [letter for _, letter in leader.beat()]
        self.assertEqual(leader.waiting(), [("voter", 3)])
        term, log = leader.term(), leader.log()
        leader.stop()
        asleep = (False, False, term, log, 0, leader.sets(), [], [])
        self.assertEqual(told_of(leader), asleep)
        self.assertEqual(leader.sets(), log[-1][1][1])
        for _ in range(60):
            self.assertEqual(leader.beat(), [])
        for letter in letters:
            self.assertEqual(leader.take(letter), [])
        for deed in (lambda: leader.ask(1), lambda: leader.change(("learner", 4)), leader.read,
                     lambda: leader.hand(1)):
            self.assertIs(type(refusal_of(deed)), NoLead)
        self.assertEqual(told_of(leader), asleep)
        leader.stop()
        self.assertEqual(told_of(leader), asleep)
        leader.wake()
        self.assertEqual(told_of(leader), (True, *asleep[1:]))

    def test_houses_without_room_keep_no_number(self):
        table = led_table(((0,), (8, 9), (3,)))
        leader = table.leader()
        numbers = [0, -5, BIG, -BIG]
        for number in numbers:
            leader.ask(number)
        leader.change(("witness", 10))
        table.round(10)
        log = leader.log()
        self.assertEqual([what[1] for _, what in log if what[0] == "number"], numbers)
        kept = [(term, ("kept",)) if what[0] == "number" else (term, what) for term, what in log]
        for number, expected in [(3, log), (8, kept), (9, kept), (10, kept)]:
            self.assertEqual(table.houses[number].log(), expected)
            self.assertEqual(table.houses[number].settled(), len(log))


class TestVotes(unittest.TestCase):
    """Two of three want the lead at one time: the third one has one vote in a term, whatever it does between."""

    def seek(self, table, house):
        """Beat a house until it tells a letter to the third one; see what comes back."""
        while not table.letters:
            table.beat(house)
        table.letters = [told for told in table.letters if told[0] == 2]
        self.assertEqual(len(table.letters), 1)
        table.deliver()
        self.assertEqual([to for to, _ in table.letters], [house])

    def two_that_stand(self):
        table = Table(THREE, numbers=[0, 1, 2])
        asked = []
        for house in (0, 1):
            self.seek(table, house)
            table.deliver()
            asked.append([told for told in table.letters if told[0] == 2])
            table.letters = []
        self.assertEqual([table.houses[house].term() for house in (0, 1)], [1, 1])
        self.assertEqual([len(letters) for letters in asked], [1, 1])
        return table, asked

    def test_one_vote_in_a_term(self):
        for woken in (False, True):
            for turn in (1, -1):
                table, asked = self.two_that_stand()
                one, other = asked[::turn]
                table.letters = list(one)
                table.deliver()
                table.deliver()
                self.assertEqual([table.houses[house].leads() for house in (0, 1)][::turn], [True, False])
                if woken:
                    table.houses[2].stop()
                    table.houses[2].wake()
                table.letters = list(other)
                while table.letters:
                    table.deliver()
                self.assertEqual([table.houses[house].leads() for house in (0, 1)][::turn], [True, False])

    def test_one_that_stands_voted_for_itself(self):
        for woken in (False, True):
            table, asked = self.two_that_stand()
            if woken:
                table.houses[1].stop()
                table.houses[1].wake()
            table.letters = [(1, asked[0][0][1])]
            while table.letters:
                table.deliver()
            self.assertFalse(table.houses[0].leads())

    def test_no_vote_for_an_elder_log(self):
        """The third one wished for a house, and then was told more than that house knows."""
        table = led_table(THREE)
        table.letters = []
        for _ in range(60):
            table.houses[2].beat()
        while not table.letters:
            table.beat(1)
        table.letters = [told for told in table.letters if told[0] == 2]
        table.deliver()
        wish = table.letters.pop()
        leader = table.houses[0]
        leader.ask(77)
        table.letters = [told for told in leader.beat() if told[0] == 2]
        table.deliver()
        table.deliver()
        self.assertEqual(leader.settled(), 2)
        table.letters = [wish]
        while table.letters:
            table.deliver()
        self.assertEqual(table.houses[1].term(), 2)
        self.assertFalse(table.houses[1].leads())


class TestLead(unittest.TestCase):
    def test_a_lone_voter_settles_by_itself(self):
        house = lone_leader()
        self.assertEqual(told_of(house), (True, True, 1, [(1, ("none",))], 1, (ALONE,), [], []))
        self.assertEqual([house.ask(number) for number in (5, -BIG, 5)], [2, 3, 4])
        self.assertEqual(house.log(), [(1, ("none",)), (1, ("number", 5)), (1, ("number", -BIG)), (1, ("number", 5))])
        self.assertEqual(house.settled(), 4)

    def test_its_entry_stands_behind_its_log_of_ahead(self):
        house = lone_leader()
        house.ask(5)
        house.change(("learner", 3))
        log = house.log()
        house.stop()
        house.wake()
        self.assertEqual((house.leads(), house.log()), (False, log))
        while not house.leads():
            self.assertEqual(house.log(), log)
            house.beat()
        self.assertEqual(house.term(), 2)
        self.assertEqual(house.log(), log + [(2, ("none",))])

    def test_who_does_not_lead_refuses(self):
        table = led_table(THREE)
        for house in table.houses.values():
            if not house.leads():
                before = told_of(house)
                for deed in (lambda: house.ask(1), lambda: house.change(("learner", 4)), house.read,
                             lambda: house.change(("leave", 9)), lambda: house.hand(1), lambda: house.hand("x")):
                    self.assertIs(type(refusal_of(deed)), NoLead)
                self.assertEqual(told_of(house), before)

    def test_a_number_is_told_its_place(self):
        house = led_table(THREE).leader()
        self.assertEqual([house.ask(number) for number in (3, 3, BIG)], [2, 3, 4])
        term = house.term()
        self.assertEqual(house.log()[1:], [(term, ("number", 3)), (term, ("number", 3)), (term, ("number", BIG))])
        self.assertEqual(house.settled(), 1)

    def test_wake_of_one_that_is_awake_is_nothing(self):
        house = led_table(THREE).leader()
        house.ask(4)
        house.change(("learner", 3))
        house.change(("voter", 3))
        house.read()
        before = told_of(house)
        self.assertIsNone(house.wake())
        self.assertEqual(told_of(house), before)
        self.assertIsNone(house.stop())
        self.assertIsNone(house.stop())


class TestChange(unittest.TestCase):
    def test_a_refused_edit_changes_nothing(self):
        house = led_table(((0, 1, 2), (8,), (3,))).leader()
        wrong = [("learner", 3), ("learner", 8), ("learner", 12), ("learner", -1), ("voter", 0), ("voter", 4),
                 ("voter", 8), ("witness", 8), ("witness", 3), ("witness", 12), ("leave", 5), ("leave", 9),
                 ("leave", BIG)]
        before = told_of(house)
        for edit in wrong:
            refusal = refusal_of(house.change, edit)
            self.assertIs(type(refusal), NoChange, edit)
            self.assertIsNone(refusal.at)
            self.assertEqual(told_of(house), before)

    def test_refused_by_the_standing_with_all_that_wait_done(self):
        house = led_table(THREE).leader()
        self.assertEqual(house.change(("learner", 3)), 1)
        self.assertEqual(house.change(("voter", 3)), 1)
        self.assertEqual(house.change(("leave", 2)), 2)
        for edit in (("voter", 3), ("leave", 2), ("witness", 3), ("leave", 4)):
            self.assertIs(type(refusal_of(house.change, edit)), NoChange)
        self.assertEqual(house.change(("learner", 3)), 3)
        self.assertEqual(house.change(("learner", 2)), 4)
        self.assertEqual(house.waiting(), [("voter", 3), ("leave", 2), ("learner", 3), ("learner", 2)])
        self.assertEqual(house.change(["leave", 1]), 5)
        self.assertIs(type(refusal_of(house.change, ("leave", 0))), NoChange)

    def test_seven_votes_and_the_last_voter(self):
        house = lone_leader()
        self.assertIs(type(refusal_of(house.change, ("leave", 0))), NoChange)
        self.assertIs(type(refusal_of(house.change, ("learner", 0))), NoChange)
        house = led_table(((0, 1, 2), (8, 9, 10), (3, 4))).leader()
        self.assertEqual(house.change(("voter", 3)), 1)
        self.assertIs(type(refusal_of(house.change, ("voter", 4))), NoChange)
        self.assertIs(type(refusal_of(house.change, ("witness", 11))), NoChange)
        self.assertEqual(house.change(("leave", 8)), 1)
        self.assertEqual(house.change(("voter", 4)), 2)

    def test_alone_each_change_is_done_at_once(self):
        house = lone_leader()
        learner = ((0,), (), (3,))
        self.assertEqual(house.change(("learner", 3)), 1)
        self.assertEqual((house.waiting(), house.settled()), ([], 2))
        self.assertEqual(house.log()[1:], [(1, ("sets", (learner,)))])
        self.assertEqual(house.change(("leave", 3)), 1)
        self.assertEqual(house.log()[2:], [(1, ("sets", (ALONE,)))])
        self.assertEqual(house.settled(), 3)

    def test_the_first_sets_then_the_second_ones(self):
        table = led_table(THREE)
        house = table.leader()
        house.change(("leave", 2))
        joint = (THREE, ((0, 1), (), ()))
        self.assertEqual(house.log()[1:], [(1, ("sets", joint))])
        self.assertEqual((house.sets(), house.waiting()), (joint, []))
        self.assertEqual(house.change(("learner", 3)), 1)
        self.assertEqual(house.waiting(), [("learner", 3)])
        table.beat(0)
        while house.settled() < 2:
            self.assertEqual(house.log()[1:], [(1, ("sets", joint))])
            table.deliver()
        self.assertEqual(house.log()[2:], [(1, ("sets", joint[1:]))])
        self.assertEqual(house.waiting(), [("learner", 3)])
        while house.settled() < 3:
            self.assertEqual(len(house.log()), 3)
            if not table.letters:
                table.beat(0)
            table.deliver()
        self.assertEqual(house.log()[3:], [(1, ("sets", (((0, 1), (), (3,)),)))])
        self.assertEqual(house.waiting(), [])

    def test_numbers_go_on_between_the_sets(self):
        table = led_table(THREE)
        house = table.leader()
        self.assertEqual(house.ask(1), 2)
        house.change(("witness", 8))
        self.assertEqual(house.ask(2), 4)
        table.round(5)
        words = [what[0] for _, what in house.log()]
        self.assertEqual(words, ["none", "number", "sets", "number", "sets"])
        self.assertEqual(house.settled(), 5)
        self.assertEqual(house.sets(), (((0, 1, 2), (8,), ()),))


if __name__ == "__main__":
    unittest.main()
