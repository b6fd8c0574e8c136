"""The lead handed over (point 26)."""

import unittest

from jointseat.errors import NoChange, NoHouse, NoLead

from histories import HOUSES, History, leader_of, led_net
from support import STRANGERS, refusal_of

THREE = ((0, 1, 2), (8,), (3,))


class TestHand(unittest.TestCase):
    def test_refusals(self):
        net, leader = led_net(THREE)
        before = [net.sight(house) for house in HOUSES]
        for to in [leader, 3, 4, 7, 8, 9, 11, *STRANGERS, 10 ** 30 - 1, None, "1", "x", [], [1], (1,), True, False,
                   {}, 1.0, 2.0]:
            refusal = refusal_of(net.hand, leader, to)
            self.assertEqual((type(refusal), refusal.at), (NoChange, None), to)
            for house in (3, 8, 11, next(house for house in range(3) if house != leader)):
                self.assertIs(type(refusal_of(net.hand, house, to)), NoLead, to)
            self.assertIs(type(refusal_of(net.hand, 12, to)), NoHouse, to)
        self.assertEqual([net.sight(house) for house in HOUSES], before)

    def test_a_refused_hand_leaves_the_lead(self):
        net, leader = led_net(THREE)
        term = net.sight(leader)[3]
        for to in (3, 8, 12, leader, None):
            refusal_of(net.hand, leader, to)
        net.calm(60)
        self.assertEqual((leader_of(net), net.sight(leader)[3]), (leader, term))

    def test_the_last_standing_counts(self):
        net, leader = led_net(((0, 1, 2), (), (3,)))
        self.assertEqual(leader, 0)
        net.change(0, ("leave", 2))
        self.assertIs(type(refusal_of(net.hand, 0, 2)), NoChange)
        net.calm(10)
        self.assertIs(type(refusal_of(net.hand, 0, 2)), NoChange)
        net.change(0, ("voter", 3))
        self.assertIsNone(refusal_of(net.hand, 0, 3))

    def test_in_calm_it_goes_over_with_all_that_was_settled(self):
        for first in (THREE, ((0, 1), (), ()), ((2, 5), (8, 9, 10), (0,)), (tuple(range(7)), (), ())):
            net, leader = led_net(first)
            for turn in range(8):
                others = [house for house in first[0] if house != leader]
                heir = others[turn % len(others)]
                asked = [net.ask(leader, turn), net.ask(leader, -turn)]
                if turn % 2:
                    net.calm(3)
                term, log = net.sight(leader)[3:5]
                self.assertIsNone(net.hand(leader, heir))
                self.assertTrue(net.sight(leader)[2])
                net.calm(5)
                self.assertEqual([house for house in HOUSES if net.sight(house)[2]], [heir])
                self.assertGreater(net.sight(heir)[3], term)
                term = net.sight(heir)[3]
                net.calm(5)
                self.assertEqual(net.sight(heir)[4][:len(log)], log)
                self.assertGreaterEqual(net.sight(heir)[5], max(asked))
                net.calm(60)
                self.assertEqual((leader_of(net), net.sight(heir)[3]), (heir, term))
                leader = heir

    def test_the_last_one_that_was_named_counts(self):
        net, leader = led_net(THREE)
        one, other = [house for house in range(3) if house != leader]
        net.hand(leader, one)
        net.hand(leader, other)
        net.calm(5)
        self.assertEqual(leader_of(net), other)

    def test_to_one_that_sleeps_nothing_comes_of_it(self):
        for rounds in range(1, 8):
            for lead_on in (0, 3):
                net, leader = led_net(THREE)
                heir = next(house for house in range(3) if house != leader)
                term = net.sight(leader)[3]
                net.stop(heir)
                net.hand(leader, heir)
                net.calm(rounds)
                net.wake(heir)
                net.calm(lead_on)
                net.ask(leader, 5)
                for _ in range(100):
                    net.calm()
                    self.assertEqual((leader_of(net), net.sight(leader)[3]), (leader, term))
                self.assertEqual(net.sight(heir)[5], 2)

    def test_where_no_quorum_is_awake_nothing_comes_of_it(self):
        net, leader = led_net(((0, 1, 2, 3, 4), (), ()))
        others = [house for house in range(5) if house != leader]
        term = net.sight(leader)[3]
        for house in others[1:]:
            net.stop(house)
        net.hand(leader, others[0])
        net.calm(5)
        for house in others[1:]:
            net.wake(house)
        net.calm(60)
        self.assertEqual((leader_of(net), net.sight(leader)[3]), (leader, term))

    def test_lost_letters_leave_the_lead(self):
        net, leader = led_net(THREE)
        heir = next(house for house in range(3) if house != leader)
        term = net.sight(leader)[3]
        net.hand(leader, heir)
        net.beat(leader)
        for number, _, _ in net.letters():
            net.lose(number)
        net.calm(60)
        self.assertEqual((leader_of(net), net.sight(leader)[3]), (leader, term))

    def test_a_hand_does_not_outlive_the_lead(self):
        net, leader = led_net(THREE)
        net.hand(leader, next(house for house in range(3) if house != leader))
        net.stop(leader)
        net.wake(leader)
        net.calm(60)
        now = leader_of(net)
        term = net.sight(now)[3]
        net.calm(60)
        self.assertEqual((leader_of(net), net.sight(now)[3]), (now, term))

    def test_to_one_whose_log_was_behind(self):
        """A house that has just come to lead doesn't know yet how far the others are."""
        net, leader = led_net(((0, 1, 2), (), ()))
        self.assertEqual(leader, 0)
        net.stop(2)
        for number in range(20):
            net.ask(0, number)
        net.calm(2)
        net.hand(0, 1)
        net.calm(3)
        self.assertEqual(leader_of(net), 1)
        net.wake(2)
        net.hand(1, 2)
        net.calm(5)
        self.assertEqual(leader_of(net), 2)
        net.calm(5)
        self.assertEqual(net.sight(2)[5], 23)

    def test_changes_that_wait_are_done_all_the_same(self):
        net, leader = led_net(THREE)
        for edit in (("learner", 4), ("voter", 4), ("witness", 9)):
            net.change(leader, edit)
        net.hand(leader, next(house for house in range(3) if house != leader))
        net.calm(60)
        self.assertEqual(net.sets(leader_of(net)), (((0, 1, 2, 4), (8, 9), (3,)),))

    def test_from_drawn_calms(self):
        for seed in range(25):
            history = History(1000 + seed)
            history.run(60)
            leader = history.calm_down()
            for _ in range(3):
                leader = history.hand_in_calm(leader)
                history.ask_in_calm(leader)


if __name__ == "__main__":
    unittest.main()
