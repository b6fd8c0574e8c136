"""Reads asked of a house that leads (point 25)."""

import unittest

from jointseat.errors import NoLead

from histories import HOUSES, leader_of, led_net
from support import refusal_of

ALONE = ((0,), (), ())
THREE = ((0, 1, 2), (), ())
FIVE = ((0, 1, 2, 3, 4), (), ())


def between(net, *houses):
    """The letters under way between some houses."""
    return [number for number, one, other in net.letters() if one in houses and other in houses]


def calm_among(net, houses, rounds):
    """Calm rounds of some houses; letters to and from the others stay under way."""
    for _ in range(rounds):
        for house in houses:
            net.beat(house)
        while between(net, *houses):
            net.deliver(between(net, *houses)[0])


def calm_but_for(net, late, rounds):
    """Calm rounds in which some letters stay under way."""
    for _ in range(rounds):
        for house in HOUSES:
            net.beat(house)
        while len(net) > len(late):
            net.deliver([number for number, _, _ in net.letters() if number not in late][0])


class TestReads(unittest.TestCase):
    def test_numbers_go_from_0_on(self):
        net, leader = led_net(THREE)
        self.assertEqual([net.read(leader) for _ in range(5)], [0, 1, 2, 3, 4])
        self.assertEqual(net.reads(leader), [])
        net.calm(3)
        self.assertEqual(net.reads(leader), [(number, 1) for number in range(5)])
        self.assertEqual(net.read(leader), 5)

    def test_only_who_leads(self):
        net, leader = led_net(THREE)
        for house in HOUSES:
            if house != leader:
                self.assertIs(type(refusal_of(net.read, house)), NoLead)
                self.assertEqual(net.reads(house), [])
        net.stop(leader)
        self.assertIs(type(refusal_of(net.read, leader)), NoLead)

    def test_an_answer_stays_as_it_was_first(self):
        net, leader = led_net(THREE)
        net.read(leader)
        net.calm(3)
        net.ask(leader, 5)
        net.calm(3)
        net.read(leader)
        net.calm(3)
        net.ask(leader, 6)
        net.calm(3)
        self.assertEqual(net.reads(leader), [(0, 1), (1, 2)])
        told = net.reads(leader)
        told.append((2, 2))
        self.assertEqual(net.reads(leader), [(0, 1), (1, 2)])

    def test_answered_in_calm_while_changes_wait_or_are_under_way(self):
        for first in (ALONE, THREE, ((0, 1), (8, 9), (3,)), ((0, 1, 2, 3), (), ())):
            net, leader = led_net(first)
            number = 0
            for edit in [("learner", 5), ("voter", 5), ("witness", 10), ("learner", 6), ("voter", 6), ("leave", 10),
                         ("witness", 11), ("leave", 5)]:
                net.change(leader, edit)
                for _ in range(2):
                    self.assertEqual(net.read(leader), number)
                    number += 1
                net.calm(3)
                self.assertEqual([read for read, _ in net.reads(leader)], list(range(number)))
                self.assertEqual(leader_of(net), leader)

    def test_each_round_a_change_and_a_read(self):
        """The sets change all the time, and yet each read is answered behind three rounds."""
        net, leader = led_net(ALONE)
        edits = [("witness", 8), ("learner", 1), ("voter", 1), ("witness", 9), ("leave", 8), ("learner", 2),
                 ("voter", 2), ("leave", 9), ("leave", 1), ("witness", 8), ("leave", 2), ("leave", 8)] * 3
        for edit in edits:
            net.change(leader, edit)
        for number in range(60):
            self.assertEqual(net.read(leader), number)
            net.calm()
            self.assertGreaterEqual(len(net.reads(leader)), number - 1)
        self.assertEqual(net.waiting(leader), [])

    def test_not_without_a_quorum_behind_the_asking(self):
        net, leader = led_net(FIVE)
        others = [house for house in range(5) if house != leader]
        net.beat(leader)
        net.read(leader)
        for number, _, _ in net.letters():
            net.deliver(number)
        for number, _, _ in net.letters():
            net.deliver(number)
        self.assertEqual(net.reads(leader), [])
        calm_among(net, [leader, others[0]], 5)
        self.assertEqual(net.reads(leader), [])
        calm_among(net, [leader, others[0], others[1]], 1)
        self.assertEqual(net.reads(leader), [(0, 1)])

    def test_a_quorum_wants_a_voter_and_both_standings(self):
        net, leader = led_net(((0, 1, 2), (), (3, 4)))
        net.change(leader, ("voter", 3))
        net.read(leader)
        others = [house for house in range(3) if house != leader]
        calm_among(net, [leader, others[0], 4, 5, 9], 5)
        self.assertEqual(net.reads(leader), [])
        calm_among(net, [leader, others[0], 3], 1)
        self.assertEqual(len(net.reads(leader)), 1)

    def test_both_standings_are_wanted(self):
        """What is a quorum of one of them alone answers nothing, whichever of them it is."""
        for first, edit, short, enough in [(((0, 1, 2, 3), (), ()), ("leave", 3), [0, 1], [0, 1, 3]),
                                           (((0, 1, 2), (), (3,)), ("voter", 3), [0, 1], [0, 1, 3])]:
            net, leader = led_net(first)
            self.assertEqual(leader, 0)
            net.change(0, edit)
            net.read(0)
            for _ in range(5):
                net.beat(0)
                for number in between(net, *short):
                    net.deliver(number)
            self.assertEqual((net.reads(0), len(net.sets(0))), ([], 2))
            calm_among(net, enough, 1)
            self.assertEqual([number for number, _ in net.reads(0)], [0])

    def test_not_ahead_of_an_entry_of_its_term(self):
        """A quorum holds it for the one that leads, but its log isn't there yet."""
        net, leader = led_net(THREE)
        heir, other = [house for house in range(3) if house != leader]
        net.stop(other)
        for place in range(3):
            net.ask(leader, place)
        net.calm(3)
        net.stop(leader)
        net.wake(other)
        while not net.sight(heir)[2]:
            if not between(net, heir, other):
                net.beat(heir)
            else:
                net.deliver(between(net, heir, other)[0])
        self.assertEqual(net.sight(heir)[5], 4)
        net.read(heir)
        net.beat(heir)
        while net.sight(heir)[5] < 5:
            self.assertEqual(net.reads(heir), [])
            net.deliver(between(net, heir, other)[0])
        calm_among(net, [heir, other], 3)
        self.assertEqual(net.reads(heir), [(0, 5)])

    def cut_off(self, first=THREE):
        """A net in which one leads that a quorum has left behind."""
        net, old = led_net(first)
        net.ask(old, 1)
        net.calm(3)
        rest = [house for house in range(5) if house != old]
        calm_among(net, rest, 60)
        new = max(rest, key=lambda house: (net.sight(house)[2], net.sight(house)[3]))
        self.assertTrue(net.sight(old)[2] and net.sight(new)[2])
        self.assertGreater(net.sight(new)[3], net.sight(old)[3])
        return net, old, new, rest

    def test_never_by_one_that_is_left_behind(self):
        net, old, new, rest = self.cut_off()
        net.ask(new, 2)
        calm_among(net, rest, 3)
        self.assertEqual(net.read(old), 0)
        for _ in range(20):
            net.beat(old)
            self.assertEqual(net.reads(old), [])
        net.calm(3)
        self.assertEqual(net.reads(old), [])
        self.assertFalse(net.sight(old)[2])

    def test_not_by_letters_of_before_the_asking(self):
        net, old = led_net(THREE)
        rest = [house for house in range(3) if house != old]
        for _ in range(5):
            net.beat(old)
        for number, _, _ in net.letters():
            net.deliver(number)
        answers = [number for number, one, other in net.letters() if other == old]
        self.assertEqual(len(answers), 10)
        calm_among(net, rest, 60)
        new = max(rest, key=lambda house: net.sight(house)[2])
        self.assertTrue(net.sight(new)[2])
        net.ask(new, 7)
        calm_among(net, rest, 3)
        net.read(old)
        net.beat(old)
        net.beat(old)
        for number in answers + answers:
            net.deliver(number, keep=True)
        self.assertTrue(net.sight(old)[2])
        self.assertEqual(net.reads(old), [])

    def test_not_by_letters_of_an_earlier_lead_of_the_same_house(self):
        net, old = led_net(THREE)
        other = next(house for house in range(3) if house != old)
        for _ in range(10):
            net.beat(old)
        for number, _, _ in net.letters():
            net.deliver(number)
        late = [number for number, _, _ in net.letters()]
        self.assertEqual(len(late), 20)
        for house, to in ((old, other), (other, old)):
            net.hand(house, to)
            calm_but_for(net, late, 5)
        self.assertTrue(net.sight(old)[2])
        self.assertEqual(net.read(old), 0)
        for number in late:
            net.deliver(number, keep=True)
        self.assertEqual((net.sight(old)[2], net.reads(old)), (True, []))
        calm_but_for(net, late, 3)
        self.assertEqual(net.reads(old), [(0, 3)])

    def test_gone_where_the_house_leads_no_more(self):
        net, leader = led_net(THREE)
        net.read(leader)
        net.calm(3)
        net.read(leader)
        other = next(house for house in range(3) if house != leader)
        net.hand(leader, other)
        net.calm(5)
        self.assertEqual((net.reads(leader), net.reads(other)), ([], []))
        self.assertEqual(net.read(other), 0)
        net.hand(other, leader)
        net.calm(5)
        self.assertTrue(net.sight(leader)[2])
        self.assertEqual(net.reads(leader), [])
        self.assertEqual(net.read(leader), 0)
        net.calm(3)
        self.assertEqual([number for number, _ in net.reads(leader)], [0])

    def test_a_lone_voter_answers_by_itself(self):
        net, leader = led_net(ALONE)
        self.assertEqual(net.read(leader), 0)
        net.calm(3)
        self.assertEqual(net.reads(leader), [(0, 1)])


if __name__ == "__main__":
    unittest.main()
