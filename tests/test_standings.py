"""Standings, and what a house is in sets (points 5 and 6)."""

import unittest
from itertools import permutations

from jointseat import standings
from jointseat.errors import NoStanding
from jointseat.standings import seat_of, standing_of, who_votes

from support import STRANGERS, as_lists, chance_of, first_as_list, form_of, refusal_of, slow_who_votes, some_sets


class TestStandingOf(unittest.TestCase):
    def test_the_numbers_of_the_interface(self):
        self.assertEqual(standings.MOST_HOUSES, 12)
        self.assertEqual(standings.MOST_VOTES, 7)

    def test_lists_in_any_order_become_rising_tuples(self):
        told = standing_of([5, 0, 3], witnesses=[11, 8], learners=[7, 1])
        self.assertEqual(told, ((0, 3, 5), (8, 11), (1, 7)))
        for voters in permutations([0, 3, 5]):
            self.assertEqual(standing_of(voters, learners=(7, 1)), ((0, 3, 5), (), (1, 7)))

    def test_what_is_told_is_made_of_tuples(self):
        for told in [standing_of([2, 1]), standing_of((2, 1), witnesses=(9,), learners=[0])]:
            self.assertIs(type(told), tuple)
            self.assertEqual([type(part) for part in told], [tuple, tuple, tuple])

    def test_arguments_by_place_by_name_or_left_out(self):
        self.assertEqual(standing_of([1]), ((1,), (), ()))
        self.assertEqual(standing_of(voters=[1]), ((1,), (), ()))
        self.assertEqual(standing_of([1], witnesses=[8]), ((1,), (8,), ()))
        self.assertEqual(standing_of([1], learners=[2]), ((1,), (), (2,)))
        self.assertEqual(standing_of(learners=[2], witnesses=[8], voters=[1]), ((1,), (8,), (2,)))
        with self.assertRaises(TypeError):
            standing_of([1], [8])

    def test_the_edges_that_are_standings(self):
        self.assertEqual(standing_of(list(range(7))), ((0, 1, 2, 3, 4, 5, 6), (), ()))
        self.assertEqual(standing_of([7]), ((7,), (), ()))
        self.assertEqual(standing_of([0], learners=[7, 6, 5, 4, 3, 2, 1]), ((0,), (), (1, 2, 3, 4, 5, 6, 7)))
        self.assertEqual(standing_of([2, 1, 0], witnesses=[8, 9, 10, 11]), ((0, 1, 2), (8, 9, 10, 11), ()))
        self.assertEqual(standing_of([0, 1, 2, 3, 4, 5, 6], learners=[7]), ((0, 1, 2, 3, 4, 5, 6), (), (7,)))

    def refuse(self, voters, witnesses=(), learners=()):
        for kind in (list, tuple):
            error = refusal_of(
                standing_of, kind(voters), witnesses=kind(witnesses), learners=kind(learners))
            self.assertIs(type(error), NoStanding, (voters, witnesses, learners))

    def test_a_house_twice_in_one_list(self):
        self.refuse([0, 1, 0])
        self.refuse([0, 0])
        self.refuse([0], witnesses=[8, 9, 8])
        self.refuse([0], learners=[1, 1])

    def test_a_house_in_two_lists(self):
        self.refuse([0, 1], learners=[1])
        self.refuse([0, 1], learners=[2, 0])
        self.refuse([0, 8], witnesses=[8])
        self.refuse([0], witnesses=[0])
        self.refuse([0], witnesses=[9], learners=[9])

    def test_a_house_in_the_wrong_list(self):
        for house in (8, 9, 10, 11):
            self.refuse([0, house])
            self.refuse([house])
            self.refuse([0], learners=[house])
        for house in range(1, 8):
            self.refuse([0], witnesses=[house])
            self.refuse([0], witnesses=[8, house])

    def test_a_number_that_is_no_house(self):
        for number in STRANGERS:
            self.refuse([number])
            self.refuse([0, number])
            self.refuse([0], witnesses=[number])
            self.refuse([0], learners=[1, number])

    def test_no_voter(self):
        self.refuse([])
        self.refuse([], witnesses=[8, 9], learners=[0, 1])

    def test_more_than_seven_that_vote(self):
        self.refuse(range(8))
        self.refuse([0, 1, 2, 3], witnesses=[8, 9, 10, 11])
        self.refuse([0, 1, 2, 3, 4, 5, 6], witnesses=[8])

    def test_what_was_handed_in_stays(self):
        voters, witnesses, learners = [3, 1], [9, 8], [7, 0]
        told = standing_of(voters, witnesses=witnesses, learners=learners)
        self.assertEqual((voters, witnesses, learners), ([3, 1], [9, 8], [7, 0]))
        voters.append(5)
        learners.clear()
        self.assertEqual(told, ((1, 3), (8, 9), (0, 7)))

    def test_what_was_handed_in_stays_behind_a_refusal(self):
        voters, witnesses = [3, 1, 3], [9, 8]
        self.refuse(voters, witnesses)
        self.assertIs(type(refusal_of(standing_of, voters, witnesses=witnesses)), NoStanding)
        self.assertEqual((voters, witnesses), ([3, 1, 3], [9, 8]))


OLD = ((0, 1, 2), (8,), (3, 4))
NEW = ((1, 3), (9, 10), (0, 5))


class TestWhoVotes(unittest.TestCase):
    def test_one_standing(self):
        self.assertEqual(who_votes((OLD,)), [0, 1, 2, 8])
        self.assertEqual(who_votes((NEW,)), [1, 3, 9, 10])
        self.assertEqual(who_votes((((7,), (), (0, 1)),)), [7])

    def test_two_standings(self):
        self.assertEqual(who_votes((OLD, NEW)), [0, 1, 2, 3, 8, 9, 10])
        self.assertEqual(who_votes((NEW, OLD)), [0, 1, 2, 3, 8, 9, 10])
        self.assertEqual(who_votes((OLD, OLD)), [0, 1, 2, 8])

    def test_all_twelve(self):
        sets = ((tuple(range(7)), (), (7,)), ((5, 6, 7), (8, 9, 10, 11), (0,)))
        self.assertEqual(who_votes(sets), list(range(12)))

    def test_sets_of_any_kinds(self):
        for sets in some_sets(chance_of(1), 100):
            for handed in (sets, list(sets), as_lists(sets), first_as_list(sets)):
                before = as_lists(handed)
                told = who_votes(handed)
                self.assertEqual(told, slow_who_votes(sets))
                self.assertEqual(form_of(told), (list, [int] * len(told)))
                self.assertEqual(as_lists(handed), before)

    def test_a_told_list_is_the_askers_own(self):
        sets = [[[0, 1], [8], [2]]]
        told = who_votes(sets)
        told.append(5)
        told[0] = 7
        self.assertEqual(sets, [[[0, 1], [8], [2]]])
        self.assertEqual(who_votes(sets), [0, 1, 8])


class TestSeatOf(unittest.TestCase):
    def seats(self, sets):
        return [seat_of(sets, house) for house in range(12)]

    def test_one_standing(self):
        self.assertEqual(self.seats((OLD,)), [
            "voter", "voter", "voter", "learner", "learner", "none", "none", "none",
            "witness", "none", "none", "none"])

    def test_two_standings_the_first_seat_goes_first(self):
        expected = [
            "voter", "voter", "voter", "voter", "learner", "learner", "none", "none",
            "witness", "witness", "witness", "none"]
        self.assertEqual(self.seats((OLD, NEW)), expected)
        self.assertEqual(self.seats((NEW, OLD)), expected)

    def test_voter_goes_ahead_of_witness_ahead_of_learner(self):
        # No standing seats one house so, but the words of the point give the order.
        voter, witness, learner = ((0,), (), ()), ((1,), (0,), ()), ((1,), (), (0,))
        self.assertEqual(seat_of((learner, witness), 0), "witness")
        self.assertEqual(seat_of((witness, learner), 0), "witness")
        self.assertEqual(seat_of((witness, voter), 0), "voter")
        self.assertEqual(seat_of((learner, voter), 0), "voter")

    def test_numbers_that_are_no_house(self):
        for number in STRANGERS:
            self.assertEqual(seat_of((OLD,), number), "none")
            self.assertEqual(seat_of((OLD, NEW), number), "none")

    def test_sets_of_any_kinds(self):
        for handed in ([OLD, NEW], as_lists((OLD, NEW)), first_as_list((OLD, NEW))):
            before = as_lists(handed)
            self.assertEqual(self.seats(handed), self.seats((OLD, NEW)))
            self.assertEqual(as_lists(handed), before)


if __name__ == "__main__":
    unittest.main()
