"""Quorums of sets, and how those of two sets meet or miss (points 6 and 7)."""

import time
import unittest

from jointseat.standings import is_quorum, least_quorums, missed, missed_shows

from support import (STRANGERS, all_groups, as_lists, chance_of, first_as_list, form_of, slow_is_quorum,
                     slow_least_quorums, slow_missed, slow_who_votes, some_sets)

THREE = ((0, 1, 2), (), (3,))
FOUR = ((0, 1, 2, 3), (), ())
MIXED = ((0,), (8, 9), (1,))
EVEN = ((0, 1), (8, 9), ())


class TestIsQuorum(unittest.TestCase):
    def told(self, sets, group):
        answer = is_quorum(sets, group)
        self.assertIs(type(answer), bool)
        return answer

    def test_exactly_half_is_none_one_more_is_one(self):
        self.assertIs(self.told((FOUR,), [0, 1]), False)
        self.assertIs(self.told((FOUR,), [0, 1, 2]), True)
        self.assertIs(self.told((EVEN,), [0, 8]), False)
        self.assertIs(self.told((EVEN,), [0, 8, 9]), True)
        self.assertIs(self.told((THREE,), [1]), False)
        self.assertIs(self.told((THREE,), [1, 2]), True)
        self.assertIs(self.told((((5,), (), ()),), [5]), True)
        self.assertIs(self.told((((5,), (), ()),), []), False)

    def test_witnesses_alone_are_none(self):
        self.assertIs(self.told((MIXED,), [8, 9]), False)
        self.assertIs(self.told((MIXED,), [8, 0]), True)
        self.assertIs(self.told((((0, 1, 2), (8, 9, 10, 11), ()),), [8, 9, 10, 11]), False)
        self.assertIs(self.told((((0, 1, 2), (8, 9, 10, 11), ()),), [8, 9, 10, 1]), True)

    def test_both_standings_are_wanted(self):
        joint = (THREE, ((3, 4, 5), (), ()))
        self.assertIs(self.told(joint, [0, 1]), False)
        self.assertIs(self.told(joint, [3, 4]), False)
        self.assertIs(self.told(joint, [0, 1, 2, 3]), False)
        self.assertIs(self.told(joint, [0, 3, 4, 5]), False)
        self.assertIs(self.told(joint, [0, 1, 3, 4]), True)

    def test_each_standing_wants_a_voter_of_its_own(self):
        joint = (((0,), (8, 9), ()), ((1,), (8, 9), ()))
        self.assertIs(self.told(joint, [0, 8, 9]), False)
        self.assertIs(self.told(joint, [1, 8, 9]), False)
        self.assertIs(self.told(joint, [0, 1, 8]), True)

    def test_learners_and_others_count_nothing(self):
        self.assertIs(self.told((THREE,), [0, 3, 4, 8]), False)
        self.assertIs(self.told((THREE,), [3, 4, 5, 6, 7, 8, 9, 10, 11]), False)
        self.assertIs(self.told((THREE,), [0, *STRANGERS]), False)
        self.assertIs(self.told((THREE,), [0, 1, 3, *STRANGERS]), True)
        self.assertIs(self.told((MIXED,), [1, 8, 9]), False)

    def test_a_house_twice_counts_once(self):
        self.assertIs(self.told((THREE,), [0, 0]), False)
        self.assertIs(self.told((THREE,), [0, 0, 0, 0]), False)
        self.assertIs(self.told((THREE,), [0, 1, 0]), True)
        self.assertIs(self.told((EVEN,), [0, 8, 8, 8, 0]), False)

    def test_groups_in_any_order_and_kind(self):
        for group in ([2, 0], (2, 0), [0, 2], (5, 2, 9, 0), list(range(299, -1, -1)), tuple(range(300))):
            before = list(group)
            self.assertIs(self.told((THREE,), group), True)
            self.assertEqual(list(group), before)
        self.assertIs(self.told((THREE,), [0] * 300), False)
        self.assertIs(self.told((THREE,), tuple(range(3, 303))), False)
        self.assertIs(self.told((THREE,), ()), False)

    def test_against_the_words_over_all_groups(self):
        groups = all_groups(range(12))
        for place, sets in enumerate(some_sets(chance_of(2), 12)):
            handed = (sets, as_lists(sets), first_as_list(sets))[place % 3]
            for group in groups:
                self.assertIs(is_quorum(handed, group), slow_is_quorum(sets, group), (sets, group))


class TestLeastQuorums(unittest.TestCase):
    def test_one_standing(self):
        self.assertEqual(least_quorums((THREE,)), [[0, 1], [0, 2], [1, 2]])
        self.assertEqual(least_quorums((((4,), (), (0,)),)), [[4]])
        self.assertEqual(least_quorums((MIXED,)), [[0, 8], [0, 9]])
        self.assertEqual(least_quorums((EVEN,)), [[0, 1, 8], [0, 1, 9], [0, 8, 9], [1, 8, 9]])

    def test_two_standings(self):
        self.assertEqual(least_quorums((THREE, ((2,), (), ()))), [[0, 2], [1, 2]])
        self.assertEqual(
            least_quorums((THREE, ((1, 2, 3), (), ()))), [[0, 1, 3], [0, 2, 3], [1, 2]])
        self.assertEqual(
            least_quorums((((0,), (8, 9), ()), ((1,), (8, 9), ()))), [[0, 1, 8], [0, 1, 9]])

    def test_against_going_over_all_groups(self):
        for place, sets in enumerate(some_sets(chance_of(3), 90)):
            handed = (sets, as_lists(sets), first_as_list(sets))[place % 3]
            before = as_lists(handed)
            told = least_quorums(handed)
            self.assertEqual(told, slow_least_quorums(sets), sets)
            self.assertEqual(form_of(told), (list, [(list, [int] * len(group)) for group in told]))
            self.assertEqual(told, sorted(told))
            self.assertEqual(told, [sorted(set(group)) for group in told])
            self.assertEqual(as_lists(handed), before)

    def test_told_lists_are_the_askers_own(self):
        sets = [[[0, 1, 2], [8], [3]], [[1, 2, 4], [], []]]
        told = least_quorums(sets)
        expected = as_lists(told)
        self.assertEqual(len({id(group) for group in told}), len(told))
        for group in told:
            group.append(99)
        told.clear()
        self.assertEqual(sets, [[[0, 1, 2], [8], [3]], [[1, 2, 4], [], []]])
        self.assertEqual(least_quorums(sets), expected)


class TestMissed(unittest.TestCase):
    def test_sets_that_meet(self):
        self.assertIsNone(missed((THREE,), (THREE,)))
        self.assertIsNone(missed((THREE,), (FOUR,)))
        self.assertIsNone(missed((FOUR,), (THREE,)))
        self.assertIsNone(missed((THREE,), (THREE, ((5, 6, 7), (), ()))))
        self.assertIsNone(missed((THREE, ((5, 6, 7), (), ())), (((5, 6, 7), (), ()),)))

    def test_the_first_pair(self):
        self.assertEqual(missed((((0,), (), ()),), (((1,), (), ()),)), ([0], [1]))
        self.assertEqual(missed((THREE,), (((2, 3, 4), (), ()),)), ([0, 1], [2, 3]))
        self.assertEqual(missed((((2, 3, 4), (), ()),), (THREE,)), ([2, 3], [0, 1]))
        self.assertEqual(missed((THREE,), (((0, 1, 2, 3, 4), (), ()),)), ([0, 1], [2, 3, 4]))
        self.assertEqual(missed((((0, 1, 2, 3, 4), (), ()),), (THREE,)), ([0, 3, 4], [1, 2]))

    def test_witnesses_in_common_do_not_make_them_meet_alone(self):
        one, other = (((0,), (8, 9), ()),), (((1,), (8, 9), ()),)
        self.assertEqual(missed(one, other), ([0, 8], [1, 9]))

    def test_joint_sets_that_miss(self):
        one = (((0, 1, 2), (), ()), ((1, 2, 3), (), ()))
        other = (((3, 4, 5), (), ()), ((0, 4, 5), (), ()))
        self.assertEqual(missed(one, other), ([0, 1, 3], [4, 5]))
        self.assertEqual(missed(other, one), ([0, 3, 4], [1, 2]))

    def test_against_going_over_all_pairs(self):
        chance = chance_of(4)
        seen = {True: 0, False: 0}
        for place in range(120):
            one, other = some_sets(chance, 2, 4) if place % 2 else some_sets(chance, 2)
            if place % 3 == 0:
                one = (*one, one[0])
                other = (one[0], *other)
            for a, b in ((one, other), (other, one)):
                handed = [(a, b), (as_lists(a), first_as_list(b)), (list(a), as_lists(b))][place % 3]
                before = as_lists(handed)
                told, expected = missed(*handed), slow_missed(a, b)
                self.assertEqual(told, expected, (a, b))
                self.assertEqual(form_of(told), form_of(expected))
                self.assertEqual(as_lists(handed), before)
                seen[told is None] += 1
            self.assertEqual(missed(one, other) is None, missed(other, one) is None)
        self.assertGreater(min(seen.values()), 20)

    def test_a_paper_is_the_askers_own(self):
        one, other = [[[0, 1, 2], [], []]], [[[2, 3, 4], [], []]]
        first, second = missed(one, other)
        first.append(7)
        second.clear()
        self.assertEqual((one, other), ([[[0, 1, 2], [], []]], [[[2, 3, 4], [], []]]))
        self.assertEqual(missed(one, other), ([0, 1], [2, 3]))


class TestManyHouses(unittest.TestCase):
    """Sets in which nearly all houses vote."""

    twelve = (((0, 1, 2, 3), (8, 9, 10), ()), ((4, 5, 6, 7), (11,), ()))

    def some_great_sets(self, seed, many):
        """So many joint sets of each: those in which ten, eleven and twelve houses vote."""
        chance = chance_of(seed)
        found = {10: [], 11: [], 12: []}
        while any(len(rows) < many for rows in found.values()):
            sets = some_sets(chance, 2)[1]
            votes = len(slow_who_votes(sets))
            if votes >= 10 and len(found[votes]) < many:
                found[votes].append(sets)
        return found[10] + found[11] + found[12]

    def test_twelve_that_vote(self):
        told = least_quorums(self.twelve)
        self.assertEqual(told, slow_least_quorums(self.twelve))
        self.assertEqual((len(told), told[0], told[-1]), (350, [0, 1, 2, 3, 4, 5, 6], [3, 6, 7, 8, 9, 10, 11]))
        self.assertIsNone(missed(self.twelve, self.twelve))
        self.assertIsNone(missed(as_lists(self.twelve), first_as_list(self.twelve)))

    def test_drawn_sets_against_going_over_all_groups(self):
        sets = self.some_great_sets(6, 8)
        sets.extend([one[:1] for one in sets] + [(one[0], one[0]) for one in sets[:3]])
        for place, one in enumerate(sets):
            handed = (one, as_lists(one), first_as_list(one))[place % 3]
            self.assertEqual(least_quorums(handed), slow_least_quorums(one), one)

    def test_drawn_pairs_against_going_over_all_pairs(self):
        sets = self.some_great_sets(7, 4)
        seen = {True: 0, False: 0}
        for place, one in enumerate(sets):
            for other in (one, sets[place - 1], one[1:], sets[place - 1][:1]):
                for a, b in ((one, other), (other, one)):
                    told = missed(as_lists(a), first_as_list(b))
                    self.assertEqual(told, slow_missed(a, b), (a, b))
                    seen[told is None] += 1
        self.assertGreater(min(seen.values()), 10)

    def test_not_by_going_over_all_groups(self):
        """Held against the plain reckoning on the same machine, so that a slow one fails nothing."""
        def least_time(deed):
            times = []
            for _ in range(5):
                begin = time.perf_counter()
                deed()
                times.append(time.perf_counter() - begin)
            return min(times)

        plain = least_time(lambda: slow_least_quorums(self.twelve))
        self.assertLess(8 * least_time(lambda: missed(self.twelve, self.twelve)), plain)
        self.assertLess(16 * least_time(lambda: least_quorums(self.twelve)), plain)


class TestMissedShows(unittest.TestCase):
    one, other = (THREE,), (((2, 3, 4), (), ()),)

    def told(self, paper, one=one, other=other):
        answer = missed_shows(one, other, paper)
        self.assertIs(type(answer), bool)
        return answer

    def test_a_paper_that_shows_it(self):
        self.assertIs(self.told(([0, 1], [2, 3])), True)
        self.assertIs(self.told(([1, 0, 9], [4, 3, 8])), True)
        self.assertIs(self.told(([0, 0, 1, 1], [3, 4, 4])), True)

    def test_a_number_in_common(self):
        self.assertIs(self.told(([0, 2], [2, 3])), False)
        self.assertIs(self.told(([0, 1, 7], [3, 4, 7])), False)
        self.assertIs(self.told(([0, 1], [3, 4, 0])), False)
        for number in STRANGERS:
            self.assertIs(self.told(([0, 1, number], [number, 3, 4])), False)
            self.assertIs(self.told(([0, 1, number], [number + 1000, 3, 4])), True)

    def test_no_quorum_of_its_own_sets(self):
        self.assertIs(self.told(([0], [2, 3])), False)
        self.assertIs(self.told(([0, 1], [3])), False)
        self.assertIs(self.told(([], [])), False)
        self.assertIs(self.told(([3, 4], [0, 1])), False)
        self.assertIs(self.told(([3, 4], [0, 1]), one=self.other, other=self.one), True)

    def test_both_standings_of_joint_sets_are_wanted(self):
        joint = (THREE, ((5, 6, 7), (), ()))
        self.assertIs(self.told(([0, 1], [3, 4]), one=joint), False)
        self.assertIs(self.told(([0, 1, 5, 6], [3, 4]), one=joint), True)
        self.assertIs(self.told(([3, 4], [0, 1, 5, 6]), one=self.other, other=joint), True)
        self.assertIs(self.told(([3, 4], [0, 1, 5]), one=self.other, other=joint), False)

    def test_papers_of_any_kinds(self):
        for paper in (([0, 1], [2, 3]), ((0, 1), (2, 3)), [[0, 1], (2, 3)], [(0, 1), [2, 3]]):
            before = form_of(paper)
            self.assertIs(self.told(paper), True)
            self.assertIs(self.told(paper, one=as_lists(self.one), other=first_as_list(self.other)), True)
            self.assertEqual(form_of(paper), before)
            self.assertEqual(as_lists(paper), [[0, 1], [2, 3]])

    def test_three_hundred_numbers(self):
        first = [0, 1] + list(range(100, 398))
        self.assertIs(self.told((first, [3, 4] + list(range(400, 698)))), True)
        self.assertIs(self.told((first, [3, 4] + list(range(397, 695)))), False)

    def test_what_missed_tells_shows_it(self):
        chance = chance_of(5)
        many = 0
        for _ in range(150):
            one, other = some_sets(chance, 2, 4)
            paper = missed(one, other)
            if paper is not None:
                many += 1
                self.assertIs(self.told(paper, one, other), True)
                self.assertIs(self.told((paper[0][1:], paper[1]), one, other), False)
                self.assertIs(self.told((paper[0], paper[1][1:]), one, other), False)
        self.assertGreater(many, 20)


if __name__ == "__main__":
    unittest.main()
