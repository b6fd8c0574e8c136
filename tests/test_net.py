"""Nets: letters under way, calm rounds, trials and twins (points 16 to 20)."""

import unittest

from jointseat.errors import NoChange, NoHouse, NoLead, NoLetter
from jointseat.net import Net

from histories import HOUSES, History, is_changing, leader_of, led_net
from support import STRANGERS, as_lists, form_of, refusal_of

ALONE = ((0,), (), ())
THREE = ((0, 1, 2), (), ())
BIG = 10 ** 30 - 1
NO_HOUSES = STRANGERS + [BIG, None, "0", [], (0,), True]


def told_of(net):
    """All that a net tells."""
    return [net.letters(), len(net), [[net.sight(house), net.sets(house), net.waiting(house), net.reads(house)]
                                      for house in HOUSES]]


def future_of(net):
    """What comes of a net: two that are alike in all have the same one."""
    net = net.twin()
    row = []
    for place in range(40):
        if len(net) and place % 3:
            net.deliver(net.letters()[place % len(net)][0])
        else:
            net.beat(place % 12)
        row.append(told_of(net))
    net.calm(30)
    return row + [told_of(net)]


def stir(net):
    """Do deeds of all kinds with a net."""
    net.calm(3)
    leader = leader_of(net)
    if leader is not None:
        net.ask(leader, 5)
        net.read(leader)
        for edit in (("learner", 7), ("leave", 7), ("witness", 11), ("leave", 11)):
            refusal_of(net.change, leader, edit)
        for house in net.sets(leader)[-1][0]:
            refusal_of(net.hand, leader, house)
    net.stop(2)
    net.beat(0)
    net.beat(1)
    for letter in net.letters():
        net.lose(letter[0])


def busy_net(seed):
    history = History(seed)
    history.calm_down()
    history.run(150)
    return history.net


class TestBegin(unittest.TestCase):
    def test_all_houses_are_awake(self):
        for first in (THREE, as_lists(THREE), [(0, 1, 2), [], ()]):
            net = Net(first)
            self.assertEqual(told_of(net), [[], 0, [[(house, True, False, 0, [], 0), (THREE,), [], []]
                                                    for house in HOUSES]])
            self.assertEqual(form_of(net.sets(3)), form_of((THREE,)))
        first = as_lists(THREE)
        net = Net(first)
        first[0].append(5)
        self.assertEqual(net.sets(0), (THREE,))


class TestLetters(unittest.TestCase):
    def net_with_letters(self):
        net, leader = led_net(THREE)
        net.beat(leader)
        net.beat(leader)
        self.assertGreater(len(net), 3)
        return net, leader

    def test_numbers_rise_and_are_never_used_again(self):
        net = Net(THREE)
        seen = []
        for place in range(200):
            before = net.letters()
            net.beat(place % 3)
            told = net.letters()
            self.assertEqual(told[:len(before)], before)
            self.assertEqual([number for number, _, _ in told[len(before):]],
                             list(range(len(seen), len(seen) + len(told) - len(before))))
            seen.extend(told[len(before):])
            for number, house, to in told[len(before):]:
                self.assertEqual((house, to != house), (place % 3, True))
            if len(net) > 5:
                net.lose(net.letters()[2][0])
                net.deliver(net.letters()[0][0])
                fresh = [letter for letter in net.letters() if letter[0] >= len(seen)]
                self.assertEqual([number for number, _, _ in fresh], list(range(len(seen), len(seen) + len(fresh))))
                seen.extend(fresh)
        self.assertGreater(len(seen), 100)
        self.assertEqual(net.letters(), sorted(net.letters()))

    def test_lose(self):
        net, _ = self.net_with_letters()
        before = told_of(net)
        number = before[0][1][0]
        self.assertIsNone(net.lose(number))
        self.assertEqual(net.letters(), before[0][:1] + before[0][2:])
        self.assertEqual(told_of(net)[2], before[2])
        self.assertIs(type(refusal_of(net.lose, number)), NoLetter)

    def test_deliver_and_keep(self):
        net, leader = self.net_with_letters()
        other = net.twin()
        number, _, to = net.letters()[0]
        self.assertIsNone(net.deliver(number))
        self.assertIsNone(other.deliver(number, keep=True))
        self.assertEqual([letter for letter in other.letters() if letter[0] != number], net.letters())
        self.assertEqual(other.letters()[0], (number, leader, to))
        self.assertEqual(told_of(net)[2], told_of(other)[2])
        self.assertEqual(net.letters()[-1][1:], (to, leader))
        for _ in range(3):
            other.deliver(number, keep=True)
        other.deliver(number, keep=False)
        self.assertNotIn(number, [letter[0] for letter in other.letters()])
        self.assertIs(type(refusal_of(other.deliver, number)), NoLetter)

    def test_a_letter_to_one_that_sleeps_is_gone(self):
        net, _ = self.net_with_letters()
        number, _, to = net.letters()[0]
        net.stop(to)
        many = len(net)
        before = net.sight(to)
        net.deliver(number, keep=True)
        self.assertEqual((len(net), net.sight(to)), (many, before))
        net.deliver(number)
        self.assertEqual((len(net), net.sight(to)), (many - 1, before))
        net.wake(to)
        self.assertNotIn(number, [letter[0] for letter in net.letters()])

    def test_told_lists_are_the_askers_own(self):
        net, leader = self.net_with_letters()
        net.change(leader, ["learner", 3])
        net.change(leader, ["voter", 3])
        net.read(leader)
        expected = repr(told_of(net))
        for told in (net.letters(), net.sight(leader)[4], net.waiting(leader), net.reads(leader)):
            self.assertIs(type(told), list)
            told.append(7)
            told.reverse()
        self.assertEqual(repr(told_of(net)), expected)


class TestRefusals(unittest.TestCase):
    def refused(self, net, kind, deed, *handed):
        before = told_of(net)
        refusal = refusal_of(deed, *handed)
        self.assertIs(type(refusal), kind, (deed, handed))
        self.assertEqual(told_of(net), before)

    def test_no_house(self):
        net, _ = led_net(THREE)
        for house in NO_HOUSES:
            for deed in (net.beat, net.stop, net.wake, net.sight, net.sets, net.waiting, net.read, net.reads):
                self.refused(net, NoHouse, deed, house)
            self.refused(net, NoHouse, net.ask, house, 5)
            self.refused(net, NoHouse, net.change, house, ("leave", 11))
            self.refused(net, NoHouse, net.hand, house, 1)
            self.refused(net, NoHouse, net.hand, house, 99)

    def test_no_letter(self):
        net, leader = led_net(THREE)
        net.beat(leader)
        for number in [-1, net.letters()[0][0] - 1, net.letters()[-1][0] + 1, BIG, None, "0", [], True, False]:
            self.refused(net, NoLetter, net.deliver, number)
            self.refused(net, NoLetter, net.lose, number)

    def test_what_the_house_refuses(self):
        net, leader = led_net(THREE)
        for house in HOUSES:
            if house != leader:
                self.refused(net, NoLead, net.ask, house, 5)
                self.refused(net, NoLead, net.change, house, ("learner", 3))
                self.refused(net, NoLead, net.change, house, ("leave", 11))
                self.refused(net, NoLead, net.read, house)
                self.refused(net, NoLead, net.hand, house, 12)
                self.refused(net, NoLead, net.hand, house, leader)
        self.refused(net, NoChange, net.change, leader, ("leave", 11))
        self.refused(net, NoChange, net.change, leader, ("witness", 12))


class TestSights(unittest.TestCase):
    def test_what_is_told_of_a_house(self):
        net, leader = led_net(((0, 1), (8,), (5,)))
        self.assertEqual(net.sight(leader), (leader, True, True, 1, [(1, ("none",))], 1))
        self.assertEqual(net.ask(leader, BIG), 2)
        self.assertEqual(net.change(leader, ("learner", 3)), 1)
        self.assertEqual(net.change(leader, ("voter", 3)), 1)
        standing = ((0, 1), (8,), (3, 5))
        log = [(1, ("none",)), (1, ("number", BIG)), (1, ("sets", (standing,)))]
        self.assertEqual(net.sight(leader), (leader, True, True, 1, log, 1))
        self.assertEqual((net.sets(leader), net.waiting(leader)), ((standing,), [("voter", 3)]))
        self.assertEqual(form_of(net.sight(leader)), form_of((leader, True, True, 1, log, 1)))
        net.stop(leader)
        self.assertEqual(net.sight(leader), (leader, False, False, 1, log, 0))
        self.assertEqual((net.sets(leader), net.waiting(leader)), ((standing,), []))


class TestCalm(unittest.TestCase):
    def round_by_hand(self, net):
        for house in HOUSES:
            net.beat(house)
        while len(net):
            net.deliver(net.letters()[0][0])

    def test_rounds_are_what_the_words_say(self):
        for seed in range(8):
            net = busy_net(seed)
            for handed, named, rounds in [((), {}, 1), ((0,), {}, 0), ((3,), {}, 3), ((), {"rounds": 2}, 2),
                                          ((), {"rounds": 0}, 0)]:
                other = net.twin()
                self.assertIsNone(net.calm(*handed, **named))
                for _ in range(rounds):
                    self.round_by_hand(other)
                self.assertEqual(told_of(net), told_of(other))
                self.assertEqual(future_of(net), future_of(other))

    def test_no_round_delivers_nothing(self):
        net, leader = led_net(THREE)
        net.beat(leader)
        before = told_of(net)
        net.calm(0)
        self.assertEqual(told_of(net), before)

    def test_one_leads_from_every_first_standing(self):
        for seed in range(40):
            history = History(seed)
            history.calm(120)
            leader = history.see_calm()
            history.ask_in_calm(leader)

    def test_houses_that_sleep_sleep_on(self):
        net, leader = led_net(THREE)
        other = next(house for house in (0, 1, 2) if house != leader)
        net.stop(other)
        net.ask(leader, 5)
        before = net.sight(other)
        net.calm(30)
        self.assertEqual(net.sight(other), before)
        self.assertEqual(net.sight(leader)[5], 2)


class TestUnderWay(unittest.TestCase):
    def test_one_that_comes_to_lead_goes_on_with_a_change(self):
        for many in range(1, 4):
            net, leader = led_net(((0, 1, 2), (), (3,)))
            net.change(leader, ("voter", 3))
            net.beat(leader)
            for _ in range(many):
                net.deliver(net.letters()[0][0])
            net.stop(leader)
            while len(net):
                net.lose(net.letters()[0][0])
            joint = net.sets(leader)
            net.calm(120)
            other = leader_of(net)
            self.assertNotIn(other, (None, leader))
            self.assertEqual(net.sets(other), joint[1:])
            sets = [what[1] for _, what in net.sight(other)[4] if what[0] == "sets"]
            self.assertEqual(sets, [joint, joint[1:]])

    def test_a_house_removes_itself(self):
        for edit in (("leave", 0), ("learner", 0)):
            net, leader = led_net(((0, 1, 2), (8,), (3,)))
            self.assertEqual(leader, 0)
            net.change(0, edit)
            net.change(0, ("learner", 4))
            while len(net.sets(0)) == 2:
                self.assertEqual(net.waiting(0), [("learner", 4)])
                net.beat(0)
                net.deliver(net.letters()[0][0])
            self.assertTrue(net.sight(0)[2])
            self.assertEqual(net.ask(0, 77), len(net.sight(0)[4]))
            self.assertEqual(net.change(0, ("learner", 5)), 2)
            self.assertEqual(net.waiting(0), [("learner", 4), ("learner", 5)])
            while net.sight(0)[2]:
                self.assertLess(net.sight(0)[5], len(net.sight(0)[4]))
                net.calm()
            self.assertEqual(net.sight(0)[5], len(net.sight(0)[4]))
            self.assertEqual((net.waiting(0), net.reads(0)), ([], []))
            self.assertEqual(net.sight(0)[4][-1][1], ("number", 77))
            net.calm(60)
            other = leader_of(net)
            self.assertIn(other, (1, 2))
            self.assertEqual(net.sets(other)[0][0], (1, 2))
            self.assertEqual(net.sight(other)[4][:len(net.sight(0)[4])], net.sight(0)[4])

    def test_only_the_one_that_leaves_has_the_last_sets(self):
        """It is no voter of its log's last sets, and yet nobody else can win: it leads once more."""
        net, leader = led_net(((0, 1), (), ()))
        self.assertEqual(leader, 0)
        net.change(0, ("leave", 0))
        net.beat(0)
        while len(net.sets(0)) == 2:
            net.deliver(net.letters()[0][0])
        net.stop(0)
        while len(net):
            net.lose(net.letters()[0][0])
        net.calm(60)
        self.assertIsNone(leader_of(net))
        net.wake(0)
        net.calm(120)
        self.assertEqual(leader_of(net), 1)
        self.assertEqual(net.sets(1), (((1,), (), ()),))

    def test_one_that_led_on_without_a_vote_has_the_newest_log(self):
        """Its leave is settled, but what it was asked behind it isn't, and only a witness knows of that."""
        net, leader = led_net(((0, 1), (8,), ()))
        self.assertEqual(leader, 0)
        net.change(0, ("learner", 0))
        net.beat(0)
        while len(net.sets(0)) == 2:
            net.deliver(net.letters()[0][0])
        net.ask(0, 5)
        while net.sight(0)[5] < 3:
            net.beat(0)
            for number, _, _ in net.letters():
                net.deliver(number)
            net.ask(0, 6)
        self.lose_all(net)
        for house, many in ((8, 20), (1, 30)):
            for _ in range(many):
                net.beat(house)
        while net.sight(1)[3] == 1:
            net.deliver([number for number, one, other in net.letters() if {one, other} == {1, 8}][0])
        self.lose_all(net)
        net.ask(0, 7)
        net.beat(0)
        for number, _, to in net.letters():
            if to == 8:
                net.deliver(number)
        self.assertGreater(len(net.sight(8)[4]), len(net.sight(1)[4]))
        net.deliver([number for number, _, to in net.letters() if to == 1][0])
        net.deliver([number for number, one, to in net.letters() if (one, to) == (1, 0)][0])
        self.lose_all(net)
        self.assertEqual((net.sight(0)[2], net.sight(0)[3]), (False, 2))
        net.calm(120)
        self.assertEqual(leader_of(net), 1)
        self.assertEqual(net.sight(1)[5], len(net.sight(1)[4]))

    def lose_all(self, net):
        for number, _, _ in net.letters():
            net.lose(number)

    def test_a_lead_wants_both_standings(self):
        """What is a quorum of one of them alone leads nobody, whichever of them it is."""
        for first, edit in [(((0, 1, 2, 3), (), ()), ("leave", 3)), (((0, 1, 2), (), (3,)), ("voter", 3))]:
            net, leader = led_net(first)
            self.assertEqual(leader, 0)
            net.change(0, edit)
            net.beat(0)
            for number, _, _ in net.letters():
                net.deliver(number)
            self.lose_all(net)
            for house in (0, 3):
                net.stop(house)
            net.calm(60)
            self.assertIsNone(leader_of(net))
            self.assertEqual({len(net.sets(house)) for house in range(4)}, {2})
            net.wake(3)
            net.calm(120)
            self.assertIn(leader_of(net), (1, 2, 3))

    def test_a_house_that_left_and_does_not_know_it_disturbs_nobody(self):
        net, leader = led_net(((0, 1, 2), (), ()))
        self.assertEqual(leader, 0)
        net.stop(2)
        net.change(0, ("leave", 2))
        net.calm(60)
        net.wake(2)
        term = net.sight(0)[3]
        for _ in range(100):
            net.calm()
            self.assertEqual((leader_of(net), net.sight(0)[3]), (0, term))
        self.assertEqual(net.sets(2), net.sets(0))

    def test_what_waits_is_gone_with_the_lead(self):
        net, leader = led_net(THREE)
        for edit in (("learner", 3), ("learner", 4), ("learner", 5)):
            net.change(leader, edit)
        self.assertEqual(len(net.waiting(leader)), 2)
        net.stop(leader)
        self.assertEqual(net.waiting(leader), [])
        net.wake(leader)
        self.assertEqual(net.waiting(leader), [])
        net.calm(120)
        self.assertNotIn(net.sets(leader_of(net))[0][2], [(3, 4), (3, 4, 5)])


class TestTrial(unittest.TestCase):
    def unchanged(self, net, deed, told=None, error=None):
        before, future = told_of(net), future_of(net)
        try:
            answer = net.on_trial(deed)
        except Exception as refusal:
            self.assertIs(type(refusal), error)
        else:
            self.assertIsNone(error)
            self.assertEqual((type(answer), answer), (type(told), told))
        self.assertEqual(told_of(net), before)
        self.assertEqual(future_of(net), future)

    def test_what_the_deed_tells(self):
        net, leader = led_net(THREE)
        net.beat(leader)
        for told in (None, 0, False, True, "", [], [1, [2]], (), 10 ** 40):
            self.unchanged(net, lambda _, told=told: told, told)
        self.unchanged(net, Net.letters, net.letters())
        self.unchanged(net, lambda same: same is net, True)
        self.unchanged(net, lambda same: same.ask(leader, 5), 2)
        kept = []
        self.assertIs(net.on_trial(lambda _: kept), kept)

    def test_all_is_as_ahead_whatever_was_done(self):
        for seed in range(6):
            net = busy_net(seed)
            self.unchanged(net, lambda same: [stir(same), 7][1], 7)
            self.unchanged(net, lambda same: same.calm(50))
            self.unchanged(net, lambda same: [same.stop(house) for house in HOUSES][0])
            self.unchanged(net, lambda same: [same.lose(letter[0]) for letter in same.letters()], [None] * len(net))

    def test_refusals_and_other_errors_go_on(self):
        net, leader = led_net(THREE)
        net.beat(leader)

        def raising(error):
            def deed(same):
                same.ask(leader, 9)
                same.calm(5)
                same.stop(leader)
                raise error
            return deed

        def refused(same):
            same.stop(leader)
            same.ask(leader, 5)

        self.unchanged(net, refused, error=NoLead)
        self.unchanged(net, lambda same: same.deliver(10 ** 9), error=NoLetter)
        self.unchanged(net, lambda same: [].pop(), error=IndexError)
        for error in (KeyError("x"), ZeroDivisionError(), RuntimeError("y"), NoChange(3)):
            self.unchanged(net, raising(error), error=type(error))
            self.assertIs(refusal_of(net.on_trial, raising(error)), error)
        before = told_of(net)
        for error in (KeyboardInterrupt, SystemExit, GeneratorExit):
            with self.assertRaises(error):
                net.on_trial(raising(error()))
            self.assertEqual(told_of(net), before)

    def test_the_numbers_of_letters_are_taken_back(self):
        net, leader = led_net(THREE)
        net.beat(leader)
        many = net.letters()[-1][0]
        net.on_trial(lambda same: same.calm(20))
        net.beat(leader)
        self.assertEqual(net.letters()[-1][0], many + 2)

    def test_trials_within_trials(self):
        net, leader = led_net(THREE)

        def inner(same):
            same.ask(leader, 2)
            raise NoForm

        class NoForm(Exception):
            pass

        def outer(same):
            same.ask(leader, 1)
            before, future = told_of(same), future_of(same)
            self.assertIs(type(refusal_of(same.on_trial, inner)), NoForm)
            self.assertEqual(same.on_trial(lambda net: net.ask(leader, 3)), 3)
            self.assertEqual(same.on_trial(lambda net: net.on_trial(lambda net: net.ask(leader, 3))), 3)
            self.assertEqual((told_of(same), future_of(same)), (before, future))
            return same.ask(leader, 4)

        self.unchanged(net, outer, 3)
        self.unchanged(net, inner, error=NoForm)

    def test_a_twin_made_on_trial_stays(self):
        net, leader = led_net(THREE)

        def deed(same):
            same.ask(leader, 1)
            return same.twin()

        other = net.on_trial(deed)
        self.assertEqual((len(net.sight(leader)[4]), len(other.sight(leader)[4])), (1, 2))
        other.calm(2)
        self.assertEqual(other.sight(leader)[5], 2)


class TestTwin(unittest.TestCase):
    def test_the_same_deeds_have_the_same_outcome(self):
        for seed in range(150):
            history = History(9000 + seed)
            history.run(30 + 3 * seed)
            net = history.net
            other = net.twin()
            expected = told_of(net)
            stir(other)
            self.assertEqual(told_of(net), expected)
            other = net.twin()
            for _ in range(60):
                self.do_the_same(history.chance, net, other)
                self.assertEqual(told_of(net), told_of(other))
            net.calm(20)
            other.calm(20)
            self.assertEqual(told_of(net), told_of(other))

    def do_the_same(self, chance, net, other):
        draw = chance.random()
        letter = chance.choice(net.letters()[-20:])[0] if len(net) else None
        house = chance.randint(0, 11)
        leader = leader_of(net)
        for one in (net, other):
            if draw < 0.7 and letter is not None:
                one.deliver(letter)
            elif draw < 0.9 or leader is None:
                for _ in range(int(draw * 10)):
                    one.beat(house)
            else:
                refusal_of(one.hand, leader, house)
                one.read(leader)
                one.ask(leader, 5)

    def test_twins_of_twins_each_changed_without_the_others(self):
        for seed in range(4):
            net = busy_net(seed)
            twins = [net, net.twin()]
            twins.append(twins[1].twin())
            futures = [future_of(one) for one in twins]
            self.assertEqual(futures[0], futures[1])
            self.assertEqual(futures[0], futures[2])
            for changed in (2, 0, 1):
                others = [place for place in range(3) if place != changed]
                before = [told_of(twins[place]) for place in others]
                stir(twins[changed])
                self.assertEqual([told_of(twins[place]) for place in others], before)
                self.assertEqual([future_of(twins[place]) for place in others], [futures[place] for place in others])
                futures[changed] = future_of(twins[changed])

    def test_kind_and_len(self):
        net, leader = led_net(THREE)
        self.assertIs(type(net.twin()), Net)
        self.assertEqual(len(net), 0)
        net.beat(leader)
        self.assertEqual(len(net), len(net.letters()))
        twin = net.twin()
        net.lose(net.letters()[0][0])
        self.assertEqual(len(twin), len(net) + 1)
        twin.beat(leader)
        net.beat(leader)
        self.assertEqual(net.letters()[-1][0], twin.letters()[-1][0])

    def test_hands_and_reads_are_in_the_twin_too(self):
        net, leader = led_net(THREE)
        net.read(leader)
        net.calm()
        net.read(leader)
        net.hand(leader, next(house for house in (0, 1, 2) if house != leader))
        other = net.twin()
        self.assertEqual(other.reads(leader), net.reads(leader))
        self.assertEqual(future_of(net), future_of(other))
        net.calm(5)
        other.calm(5)
        self.assertEqual(told_of(net), told_of(other))
        self.assertNotEqual(leader_of(net), leader)


class TestIsChanging(unittest.TestCase):
    """The reckoning of the tests themselves."""

    def test_words_of_point_16(self):
        log = [(1, ("none",)), (1, ("sets", (THREE, ALONE)))]
        self.assertTrue(is_changing(log, THREE, 2))
        log.append((1, ("sets", (ALONE,))))
        self.assertTrue(is_changing(log, THREE, 2))
        self.assertFalse(is_changing(log, THREE, 3))
        self.assertFalse(is_changing([], THREE, 0))


if __name__ == "__main__":
    unittest.main()
