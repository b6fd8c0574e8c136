"""Twins of a watch, and which watches are == (point 22)."""

import unittest
from unittest import mock

from jointseat.watch import Watch

from slow_watch import DrawnSights
from support import as_lists, as_tuples, chance_of

THREE = ((0, 1, 2), (8,), (3,))
FOUR = ((0, 1, 2), (8,), (4,))
LOG = [(1, ("none",)), (2, ("number", 5)), (2, ("sets", (THREE,)))]
ONE = (0, True, True, 2, LOG, 2)
OTHER = (8, True, False, 2, [(1, ("none",)), (2, ("kept",))], 1)


def shown(*lists, first=THREE, form=list):
    """A watch that was shown these lists."""
    watch = Watch(form(first))
    for sights in lists:
        watch.show(form(sights))
    return watch


class TestSame(unittest.TestCase):
    def alike(self, one, other, expected):
        self.assertIs(one == other, expected)
        self.assertIs(other == one, expected)
        self.assertIs(one != other, not expected)

    def test_the_same_lists(self):
        for lists in ([], [[]], [[ONE]], [[ONE, OTHER]], [[], [ONE], [OTHER, ONE], []]):
            for one in (list, as_lists, as_tuples):
                for other in (list, as_lists, as_tuples):
                    self.alike(shown(*lists, form=one), shown(*lists, form=other), True)
        watch = shown([ONE])
        self.alike(watch, watch, True)

    def test_other_first_standings(self):
        self.alike(shown(), shown(first=FOUR), False)
        self.alike(shown([ONE]), shown([ONE], first=FOUR), False)
        self.alike(shown([OTHER], first=((0,), (), ())), shown([OTHER], first=((0,), (), (1,))), False)

    def test_other_lists(self):
        lists = [[ONE, OTHER], [OTHER], [ONE]]
        watch = shown(*lists)
        for others in ([*lists, []], [[], *lists], [lists[0], [], *lists[1:]], lists[:2], lists[1:],
                       [*lists, lists[2]], [lists[0], *lists], [lists[0], lists[2], lists[1]],
                       [lists[1], lists[0], lists[2]], [[OTHER, ONE], *lists[1:]], [[ONE], [OTHER], *lists[1:]],
                       [lists[0], lists[1] + lists[2]], [[ONE], lists[1], lists[2]], []):
            self.alike(watch, shown(*others), False)
            self.alike(shown(*others), shown(*others), True)

    def test_one_part_otherwise(self):
        near = [
            (1, *ONE[1:]), (0, True, False, *ONE[3:]), (0, False, False, 2, LOG, 0), (0, True, True, 3, LOG, 2),
            (0, True, True, 2, LOG, 1), (0, True, True, 2, LOG, 3), (0, True, True, 2, LOG[:2], 2),
            (0, True, True, 2, [*LOG, (2, ("kept",))], 2), (0, True, True, 2, [(1, ("kept",)), *LOG[1:]], 2),
            (0, True, True, 2, [LOG[0], (1, ("number", 5)), LOG[2]], 2),
            (0, True, True, 2, [LOG[0], (2, ("number", 6)), LOG[2]], 2),
            (0, True, True, 2, [LOG[0], (2, ("kept",)), LOG[2]], 2),
            (0, True, True, 2, [*LOG[:2], (2, ("sets", (FOUR,)))], 2),
            (0, True, True, 2, [*LOG[:2], (2, ("sets", (THREE, THREE)))], 2)]
        watches = [shown([OTHER], [sight], []) for sight in [ONE, *near]]
        for place, one in enumerate(watches):
            for another, other in enumerate(watches):
                self.alike(one, other, place == another)

    def test_alike_entries_are_not_the_same(self):
        """Nor are watches by what they tell: only what they were shown counts."""
        log = [(1, ("number", 5))]
        kept = [(1, ("kept",))]
        one = shown([(0, True, False, 1, log, 1)])
        other = shown([(0, True, False, 1, kept, 1)])
        self.alike(one, other, False)
        one, other = shown([(0, True, False, 1, log, 0)]), shown([(0, True, False, 2, log, 0)])
        self.assertEqual(one.settled(), other.settled())
        self.alike(one, other, False)

    def test_nothing_else_is_the_same(self):
        for watch in (shown(), shown([ONE])):
            for other in (None, 0, 7, [], [[ONE]], (), THREE, "", "watch", {}, object(), True, False, Watch,
                          (THREE, [])):
                self.alike(watch, other, False)
            self.assertIs(watch == mock.ANY, False)


class TestTwin(unittest.TestCase):
    def test_twins_of_twins(self):
        watch = shown([ONE], [OTHER])
        twins = [watch.twin()]
        for _ in range(4):
            twins.append(twins[-1].twin())
        for twin in twins:
            self.assertIs(type(twin), Watch)
            self.assertIs(twin == watch, True)
            self.assertIsNot(twin, watch)
            self.assertEqual(twin.settled(), watch.settled())
        for place, twin in enumerate(twins):
            twin.show(place * [OTHER])
            twin.settled().clear()
        for place, twin in enumerate(twins):
            self.assertIs(twin == watch, False)
            self.assertEqual(twin == shown([ONE], [OTHER], place * [OTHER]), True)
        self.assertIs(watch == shown([ONE], [OTHER]), True)

    def test_each_is_shown_other_lists(self):
        """A watch and its twins tell on as ones that were shown the same from the first list on."""
        for seed in range(30):
            chance = chance_of(seed)
            drawn = DrawnSights(chance, chance.choice([0, 0.1, 0.5]))
            ahead = [drawn.list() for _ in range(chance.choice([0, 1, 8, 15]))]
            watch = shown(*ahead, first=drawn.first)
            twin = watch.twin()
            third = twin.twin()
            behind = {id(one): [] for one in (watch, twin, third)}
            told = {id(one): [] for one in (watch, twin, third)}
            for _ in range(18):
                one = chance.choice([watch, twin, third])
                sights = drawn.list()
                behind[id(one)].append(sights)
                told[id(one)].append(one.show(sights))
            for one in (watch, twin, third):
                fresh = shown(*ahead, first=drawn.first)
                self.assertEqual([fresh.show(sights) for sights in behind[id(one)]], told[id(one)], seed)
                self.assertEqual(fresh.settled(), one.settled())
                self.assertTrue(fresh == one)

    def test_each_part_is_the_twins_own(self):
        log = [(1, ("number", 1)), (1, ("number", 2))]
        other = [(1, ("number", 1)), (2, ("number", 3))]
        kept = [(1, ("kept",))]
        for ahead, mine, theirs, breach in [
                # Who led; what was settled, and what it gave way to; the last sights.
                ([], [(0, True, True, 1, [], 0)], [(1, True, True, 1, [], 0)], None),
                ([(2, True, True, 5, [], 0)], [(0, True, True, 5, [], 0)], [], ("two lead", 5, 0, 2)),
                ([], [(0, True, False, 1, log, 2)], [(1, True, False, 2, other, 2)], None),
                ([(8, True, False, 1, kept, 1)], [(0, True, False, 1, log, 1)],
                 [(1, True, False, 1, [(1, ("number", 9))], 1)], None),
                ([(0, True, False, 1, log, 1)], [(0, True, False, 1, log, 2)], [(0, True, False, 1, log, 1)], None)]:
            watch = shown(ahead)
            twin = watch.twin()
            self.assertEqual(watch.show(mine), breach)
            self.assertIsNone(twin.show(theirs))
            self.assertIsNone(twin.twin().show([]))


if __name__ == "__main__":
    unittest.main()
