"""Plans: groups of houses asleep, and the fewest edits (points 27 and 28)."""

import time
import unittest
from functools import lru_cache

from jointseat.changes import changed, way_of
from jointseat.plans import all_bear, bears, fewest_edits, weak_groups

from support import (STRANGERS, all_groups, as_lists, as_tuples, chance_of, first_as_list, form_of, slow_is_quorum,
                     slow_who_votes, some_sets, some_standing)

ALONE = ((0,), (), ())
THREE = ((0, 1, 2), (), (3,))
FOUR = ((0, 1, 2, 3), (), ())
MIXED = ((0,), (8, 9), (1,))
SEVEN = ((0, 1, 2, 3, 4, 5, 6), (), ())
WIDE = (((0, 1, 2), (8, 9, 10, 11), (3,)), ((3, 4, 5, 6, 7), (8, 9), ()))


def slow_bears(sets, asleep):
    return slow_is_quorum(sets, [house for house in slow_who_votes(sets) if house not in asleep])


def slow_weak_groups(sets):
    weak = [group for group in all_groups(slow_who_votes(sets)) if not slow_bears(sets, group)]
    return sorted(group for group in weak if all(slow_bears(sets, [other for other in group if other != house])
                                                 for house in group))


class TestBears(unittest.TestCase):
    def told(self, sets, asleep):
        answer = bears(sets, asleep)
        self.assertIs(type(answer), bool)
        for form in (as_lists, as_tuples, first_as_list):
            self.assertIs(bears(form(sets), list(asleep)), answer)
            self.assertIs(bears(form(sets), tuple(asleep)), answer)
        return answer

    def test_both_sides(self):
        for sets, asleep, expected in [
                ((ALONE,), [], True), ((ALONE,), [0], False), ((THREE,), [0], True), ((THREE,), [0, 1], False),
                ((FOUR,), [3], True), ((FOUR,), [2, 3], False), ((SEVEN,), [1, 3, 5], True),
                ((SEVEN,), [1, 3, 5, 6], False), ((MIXED,), [8], True), ((MIXED,), [0], False),
                ((MIXED,), [8, 9], False), ((((0, 1), (8, 9, 10), ()),), [0, 8], True),
                ((((0, 1), (8, 9, 10), ()),), [0, 1], False), ((((0, 1), (8, 9, 10), ()),), [8, 9], True),
                ((((0, 1), (8, 9, 10), ()),), [8, 9, 10], False)]:
            self.assertIs(self.told(sets, asleep), expected, (sets, asleep))

    def test_of_two_standings_both_count(self):
        joint = (((0, 1, 2), (), ()), ((2, 3, 4), (), ()))
        for asleep, expected in [([], True), ([2], True), ([0, 3], True), ([0, 1], False), ([3, 4], False),
                                 ([2, 3], False), ([1, 2], False), ([0, 4], True)]:
            self.assertIs(self.told(joint, asleep), expected, asleep)

    def test_learners_others_and_houses_twice(self):
        for asleep, expected in [([3], True), ([3, 4, 5, 6, 7, 8, 9, 10, 11], True), ([0, 0, 0, 0], True),
                                 ([0, 3, 8, *STRANGERS], True), ([0, 1, *STRANGERS], False),
                                 (300 * [2], True), ([0] + 299 * [1], False), (list(range(3, 303)), True)]:
            self.assertIs(self.told((THREE,), asleep), expected, asleep)

    def test_all_groups(self):
        chance = chance_of(5)
        for sets in [*some_sets(chance, 24), WIDE]:
            for group in chance.sample(all_groups(range(12)), 150):
                group = chance.choice([group, group + group, group + STRANGERS])
                self.assertIs(bears(sets, group), slow_bears(sets, group), (sets, group))

    def test_what_is_handed_in_stays(self):
        sets, asleep = as_lists(WIDE), [3, 3, 1]
        bears(sets, asleep)
        all_bear([sets, sets], asleep)
        weak_groups(sets)
        self.assertEqual((sets, asleep), (as_lists(WIDE), [3, 3, 1]))


class TestAllBear(unittest.TestCase):
    def test_rows(self):
        for row, asleep, expected in [
                ([], [], True), ([], [0, 1, 2], True), ((), STRANGERS, True), ([(THREE,)], [0], True),
                ([(THREE,)], [0, 1], False), ([(THREE,), (FOUR,)], [3], True), ([(THREE,), (FOUR,)], [0, 3], False),
                ([(FOUR,), (THREE,)], [0, 3], False), ([(SEVEN,), (FOUR,), (SEVEN,)], [2, 3], False),
                ([(SEVEN,), (THREE, FOUR), (FOUR,)], [2], True), (300 * [(SEVEN,)], [2, 3, 4], True),
                (299 * [(SEVEN,)] + [(FOUR,)], [2, 3, 4], False)]:
            for form in (as_lists, as_tuples):
                answer = all_bear(form(row), asleep)
                self.assertIs(answer, expected, (row, asleep))

    def test_drawn_rows(self):
        chance = chance_of(6)
        for _ in range(150):
            row = some_sets(chance, chance.randint(0, 4))
            asleep = chance.sample(range(12), chance.randint(0, 4))
            self.assertIs(all_bear(row, asleep), all([slow_bears(sets, asleep) for sets in row]))


class TestWeakGroups(unittest.TestCase):
    def test_small_ones(self):
        for sets, groups in [
                ((ALONE,), [[0]]), ((((0, 1), (), ()),), [[0], [1]]), ((THREE,), [[0, 1], [0, 2], [1, 2]]),
                ((MIXED,), [[0], [8, 9]]), ((((3,), (8,), ()),), [[3], [8]]),
                ((FOUR,), [[0, 1], [0, 2], [0, 3], [1, 2], [1, 3], [2, 3]]),
                ((((0, 1), (8,), ()),), [[0, 1], [0, 8], [1, 8]]),
                ((((2,), (8, 9, 10), ()),), [[2], [8, 9], [8, 10], [9, 10]]),
                ((((2,), (8, 9, 10, 11), (5,)),), [[2], [8, 9, 10], [8, 9, 11], [8, 10, 11], [9, 10, 11]]),
                ((ALONE, THREE), [[0], [1, 2]]), ((THREE, THREE), [[0, 1], [0, 2], [1, 2]]),
                ((((0, 1), (8,), ()), ((1, 2, 3), (8,), ())),
                 [[0, 1], [0, 8], [1, 2], [1, 3], [1, 8], [2, 3], [2, 8], [3, 8]])]:
            told = weak_groups(sets)
            self.assertEqual(told, groups, sets)
            self.assertEqual(form_of(told), form_of(groups))
            self.assertEqual(told, slow_weak_groups(sets))

    def test_all_groups_gone_over(self):
        chance = chance_of(7)
        for place, sets in enumerate([*some_sets(chance, 60, 4), *some_sets(chance, 12), WIDE, (SEVEN,)]):
            form = (as_lists, as_tuples, first_as_list)[place % 3]
            self.assertEqual(weak_groups(form(sets)), slow_weak_groups(sets), sets)

    def test_told_lists_are_the_askers_own(self):
        told = weak_groups((THREE,))
        told[0].append(7)
        told.pop()
        self.assertEqual(weak_groups((THREE,)), [[0, 1], [0, 2], [1, 2]])

    def test_twelve_that_vote(self):
        began = time.monotonic()
        for _ in range(20):
            weak_groups(WIDE)
        self.assertLess(time.monotonic() - began, 2)


# The slow search: a standing is a text, a sign for each house.

def signs_of(standing):
    parts = dict(zip("vwl", standing))
    return "".join(next((sign for sign, part in parts.items() if house in part), "-") for house in range(12))


def is_standing(signs):
    return "v" in signs and signs.count("v") + signs.count("w") <= 7


NEXT_SIGNS = {("-", True): [("learner", "l")], ("-", False): [("witness", "w")],
              ("l", True): [("leave", "-"), ("voter", "v")], ("v", True): [("learner", "l"), ("leave", "-")],
              ("w", False): [("leave", "-")]}


@lru_cache(maxsize=None)
def steps_from(signs):
    """All edits that can be done, by order, and what is behind each."""
    found = []
    for house, sign in enumerate(signs):
        for word, new in NEXT_SIGNS[sign, house < 8]:
            after = signs[:house] + new + signs[house + 1:]
            if is_standing(after):
                found.append(((word, house), after))
    return sorted(found)


def is_borne(signs, asleep):
    awake = [sign for house, sign in enumerate(signs) if sign in "vw" and house not in asleep]
    return "v" in awake and 2 * len(awake) > signs.count("v") + signs.count("w")


def slow_fewest(old, new, asleep=()):
    """Layer by layer, all that can be reached; then back, and the first such edits by order."""
    start, goal = signs_of(old), signs_of(new)
    if start == goal:
        return []
    borne = {}

    def may_be(signs):
        if signs not in borne:
            borne[signs] = is_borne(signs, asleep)
        return borne[signs]

    layers, seen = [{start}], {start}
    while goal not in seen:
        layers.append({after for signs in layers[-1] if may_be(signs) for _, after in steps_from(signs)
                       if after not in seen and may_be(after)})
        if not layers[-1]:
            return None
        seen |= layers[-1]
    ways = [{goal}]
    for layer in layers[-2::-1]:
        ways.insert(0, {signs for signs in layer if any(after in ways[0] for _, after in steps_from(signs))})
    edits, signs = [], start
    for way in ways[1:]:
        edit, signs = next((edit, after) for edit, after in steps_from(signs) if after in way)
        edits.append(edit)
    return edits


class TestFewestEdits(unittest.TestCase):
    def check(self, old, new, asleep=(), edits="drawn"):
        expected = slow_fewest(old, new, asleep) if edits == "drawn" else edits
        told = fewest_edits(old, new, asleep=asleep)
        self.assertEqual(told, expected, (old, new, asleep))
        self.assertEqual(form_of(told), form_of(expected))
        if edits != "drawn":
            self.assertEqual(slow_fewest(old, new, asleep), expected, (old, new, asleep))
        if told is not None:
            behind = old
            for edit in told:
                behind = changed(behind, edit)
            self.assertEqual(behind, new)
            self.assertTrue(all(slow_bears(sets, asleep) for sets in way_of(old, told)))
        return told

    def test_single_edits(self):
        self.check(THREE, ((0, 1, 2), (), ()), (), [("leave", 3)])
        self.check(((0, 1, 2), (), ()), THREE, (), [("learner", 3)])
        self.check(THREE, FOUR, (), [("voter", 3)])
        self.check(FOUR, THREE, (), [("learner", 3)])
        self.check(FOUR, ((0, 1, 2), (), ()), (), [("leave", 3)])
        self.check(FOUR, ((0, 1, 2, 3), (9,), ()), (), [("witness", 9)])
        self.check(((0, 1, 2, 3), (9,), ()), FOUR, (), [("leave", 9)])
        self.check(((0, 1, 2), (), ()), FOUR, (), [("learner", 3), ("voter", 3)])

    def test_the_first_such_by_order(self):
        self.check(ALONE, ((1,), (), ()), (), [("learner", 1), ("voter", 1), ("leave", 0)])
        self.check(((0, 1, 2), (), ()), ((3, 4), (8,), (0,)), (),
                   [("learner", 0), ("learner", 3), ("learner", 4), ("leave", 1), ("voter", 3), ("leave", 2),
                    ("voter", 4), ("witness", 8)])
        self.check(((0, 1), (10, 11), ()), ((0, 1), (8, 9), ()), (),
                   [("leave", 10), ("leave", 11), ("witness", 8), ("witness", 9)])
        self.check(((7,), (), (0,)), ((0,), (), (7,)), (), [("voter", 0), ("learner", 7)])
        self.check(((2, 7), (), ()), ((1,), (), ()), (), [("learner", 1), ("leave", 2), ("voter", 1), ("leave", 7)])

    def test_from_one_to_the_same(self):
        chance = chance_of(8)
        for standing in [ALONE, THREE, SEVEN, *[some_standing(chance) for _ in range(20)]]:
            for asleep in ([], [0], list(range(12)), [*standing[0], *standing[1]], STRANGERS):
                for form in (list, as_lists, as_tuples):
                    self.assertEqual(fewest_edits(form(standing), as_tuples(standing), asleep=asleep), [])
            self.assertEqual(fewest_edits(standing, standing), [])

    def test_none_asleep(self):
        """Left out, or as none, or as none that votes."""
        chance = chance_of(9)
        for _ in range(60):
            old, new = some_standing(chance), some_standing(chance)
            told = fewest_edits(old, new)
            self.assertEqual(fewest_edits(as_lists(old), as_lists(new)), told)
            for asleep in ([], (), STRANGERS, [-1], [12, 12]):
                self.assertEqual(fewest_edits(old, new, asleep=asleep), told)

    def test_where_one_of_the_two_is_not_borne(self):
        self.check(THREE, FOUR, [0, 1], None)
        self.check(FOUR, THREE, [0, 1], None)
        self.check(THREE, ((2, 3, 4), (), ()), [0, 1], None)
        self.check(((2, 3, 4), (), ()), THREE, [0, 1], None)
        self.check(THREE, ((0, 1, 2), (), (3, 4)), [0, 1], None)
        self.check(MIXED, ((0,), (8, 9), ()), [0], None)
        self.check(MIXED, ((0,), (8, 9), ()), [1, 8], [("leave", 1)])
        self.check(FOUR, SEVEN, [2, 3], None)
        self.check(SEVEN, FOUR, [2, 3], None)

    def test_houses_asleep_wait_or_go_first(self):
        self.check(THREE, ((0, 1), (), (3,)), [2], [("leave", 2)])
        self.check(((0, 1), (), ()), ((0, 1, 2), (), ()), [2], [("learner", 2), ("voter", 2)])
        self.check(((0, 1, 2), (), ()), ((0, 2, 3), (), ()), [2],
                   [("learner", 3), ("voter", 3), ("leave", 1)])
        self.check(((0, 1, 2), (), ()), ((1, 2, 3), (8,), ()), [0], "drawn")

    def test_where_seven_vote_one_goes_ahead_of_the_coming_of_another(self):
        self.check(SEVEN, ((1, 2, 3, 4, 5, 6, 7), (), ()), (), [("learner", 7), ("leave", 0), ("voter", 7)])
        self.check(SEVEN, ((0, 1, 2, 3, 4, 5), (8,), ()), (), [("leave", 6), ("witness", 8)])
        self.check(((0, 1, 2), (8, 9, 10, 11), (3, 4, 5)), ((3, 4, 5), (8, 9, 10, 11), (0, 1, 2)), (),
                   [("learner", 0), ("learner", 1), ("voter", 3), ("learner", 2), ("voter", 4), ("voter", 5)])

    def test_where_one_asleep_gives_up_its_vote_for_a_while(self):
        """Seven vote, of whom four are awake: none of these can go first, and there is no room for one to come."""
        self.check(SEVEN, ((0, 1, 2, 4, 5, 6, 7), (), ()), [4, 5, 6],
                   [("learner", 4), ("learner", 7), ("leave", 3), ("voter", 7), ("voter", 4)])
        self.check(((0, 1, 2), (8, 9, 10, 11), (3,)), ((1, 2, 3), (8, 9, 10, 11), ()), [1, 2],
                   [("learner", 1), ("voter", 3), ("leave", 0), ("voter", 1)])
        self.check(((0, 1, 2), (8, 9, 10, 11), (3,)), ((1, 2, 3), (8, 9, 10, 11), ()), [9, 10, 11], "drawn")
        self.check(((0, 1, 2, 3), (8, 9, 10), ()), ((4, 5, 6, 7), (8, 9, 10), ()), [8, 9, 10], "drawn")
        # With one asleep fewer, or another one of them coming or going, none has to.
        self.check(SEVEN, ((0, 1, 2, 4, 5, 6, 7), (), ()), [5, 6], [("learner", 7), ("leave", 3), ("voter", 7)])
        self.check(SEVEN, ((0, 1, 2, 4, 5, 7), (8,), ()), [4, 5, 6], "drawn")

    def test_seven_that_vote_and_any_asleep(self):
        chance = chance_of(10)
        longer = 0
        for _ in range(32):
            old = self.some_seven(chance)
            new = self.some_seven(chance, old)
            asleep = chance.sample([*old[0], *old[1]], 3)
            told = self.check(old, new, asleep)
            longer += told is not None and len(told) > len(fewest_edits(old, new))
        self.assertGreater(longer, 3)

    def some_seven(self, chance, near=None):
        """A standing in which seven vote, perhaps near to another one."""
        voting = chance.sample(range(8), chance.randint(3, 7))
        voting += chance.sample(range(8, 12), min(4, 7 - len(voting)))
        if near:
            voting = [*near[0], *near[1]]
            gone = [voting.pop(chance.randrange(len(voting))) for _ in range(chance.choice([1, 1, 2]))]
            others = [house for house in range(12) if house not in voting + gone]
            voting += chance.sample(others, min(len(others), len(gone)))
        voters = [house for house in voting if house < 8]
        learners = [house for house in range(8) if house not in voters and chance.random() < 0.3]
        return tuple(sorted(voters)), tuple(sorted(set(voting) - set(voters))), tuple(learners)

    def test_drawn_near_ones(self):
        chance = chance_of(11)
        for _ in range(45):
            old = some_standing(chance)
            signs = signs_of(old)
            for _ in range(chance.randint(0, 5)):
                signs = chance.choice(steps_from(signs))[1]
            new = tuple(tuple(house for house in range(12) if signs[house] == sign) for sign in "vwl")
            asleep = chance.sample(range(12), chance.randint(0, 4))
            self.check(old, new, chance.choice([asleep, asleep + asleep, asleep + STRANGERS]))

    def test_far_ones_in_which_all_twelve_houses_change(self):
        self.check(((0, 1, 2, 3), (8, 9), (4,)), ((4, 5, 6, 7), (10, 11), (0,)), [])
        self.check(((0, 1, 2), (8, 9, 10, 11), (3,)), ((3, 4, 5, 6, 7), (), (0, 1)), [0, 9, 7])

    def test_handed_in_forms(self):
        old, new = as_lists(THREE), as_lists(((2, 3, 4), (8,), ()))
        asleep = [0, 0, 12, -1]
        told = fewest_edits(old, new, asleep=asleep)
        self.assertEqual(told, slow_fewest(THREE, ((2, 3, 4), (8,), ()), [0]))
        self.assertEqual(fewest_edits(as_tuples(old), new, asleep=tuple(asleep)), told)
        told.append(5)
        self.assertEqual(fewest_edits(old, new, asleep=300 * [0]), told[:-1])
        self.assertEqual((old, new, asleep), (as_lists(THREE), [[2, 3, 4], [8], []], [0, 0, 12, -1]))

    def test_it_is_not_slow(self):
        chance = chance_of(3)
        began = time.monotonic()
        for _ in range(150):
            fewest_edits(some_standing(chance), some_standing(chance), asleep=chance.sample(range(12), 2))
        self.assertLess(time.monotonic() - began, 5)


if __name__ == "__main__":
    unittest.main()
