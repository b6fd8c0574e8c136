"""A watch: each breach alone, on both sides of where it is told (point 21)."""

import unittest

from jointseat.watch import Watch

from support import as_lists, as_tuples, form_of

ALONE = ((0,), (), ())
THREE = ((0, 1, 2), (), ())
FOUR = ((0, 1, 2, 3), (), ())
MIXED = ((0, 1, 2), (8, 9), (3,))
FAR = ((5, 6, 7), (), ())
BIG = 10 ** 29
NONE = ("none",)
KEPT = ("kept",)


def number(n):
    return ("number", n)


def sets(*standings):
    return ("sets", standings)


def entries(*whats, term=1):
    return [(term, what) for what in whats]


def sight(house, log=(), settled=0, *, awake=True, leads=False, term=1):
    return house, awake, leads, term, list(log), settled


def leading(house, term=1, log=(), settled=0):
    return sight(house, log, settled, leads=True, term=term)


class WatchCase(unittest.TestCase):
    def shown(self, first, *lists):
        """What a watch tells of each list, shown as it is, as lists and as tuples."""
        told = []
        for form in (list, as_lists, as_tuples):
            watch = Watch(form(first))
            told.append([watch.show(form(sights)) for sights in lists])
        self.assertEqual(told[0], told[1])
        self.assertEqual(told[0], told[2])
        for breach in told[0]:
            self.assertIn(type(breach), (tuple, type(None)))
        return told[0]

    def last_shown(self, first, *lists):
        """What is told of the last list, nothing being told of those ahead."""
        told = self.shown(first, *lists)
        self.assertEqual(told[:-1], [None] * (len(lists) - 1))
        return told[-1]


class TestTwoLead(WatchCase):
    def test_in_one_list(self):
        self.assertEqual(self.shown(THREE, [leading(0), leading(1)]), [("two lead", 1, 0, 1)])
        self.assertEqual(self.shown(THREE, [leading(1), leading(0)]), [("two lead", 1, 0, 1)])
        self.assertEqual(self.shown(THREE, [leading(0), leading(1, 2)]), [None])
        self.assertEqual(self.shown(THREE, [leading(0), sight(1)]), [None])

    def test_in_lists_far_apart(self):
        ahead = [[leading(2, BIG)]] + 60 * [[sight(2, term=BIG + 1)]]
        told = self.shown(THREE, *ahead, [leading(0, BIG)], [leading(0, BIG + 2)])
        self.assertEqual(told, 61 * [None] + 2 * [("two lead", BIG, 0, 2)])
        self.assertEqual(self.shown(THREE, *ahead, [leading(0, BIG - 1)]), 62 * [None])

    def test_told_again_at_each_list_behind(self):
        told = self.shown(THREE, [leading(0)], [leading(1)], [], [sight(0)], [sight(2, term=5)], [], [sight(9)])
        self.assertEqual(told, [None] + 6 * [("two lead", 1, 0, 1)])

    def test_the_least_term_then_the_least_two(self):
        told = self.shown(THREE, [leading(1, 7), leading(2, 7)], [leading(0, 9), leading(1, 9)],
                          [leading(0, 7)], [leading(2, 3)], [leading(1, 3)], [leading(0, 3)])
        self.assertEqual(told, [("two lead", 7, 1, 2), ("two lead", 7, 1, 2), ("two lead", 7, 0, 1),
                                ("two lead", 7, 0, 1), ("two lead", 3, 1, 2), ("two lead", 3, 0, 1)])

    def test_three_in_one_term(self):
        self.assertEqual(self.shown(MIXED, [leading(2), leading(1), leading(0)]), [("two lead", 1, 0, 1)])
        told = self.shown(MIXED, [leading(2)], [leading(1)], [leading(0)])
        self.assertEqual(told, [None, ("two lead", 1, 1, 2), ("two lead", 1, 0, 1)])

    def test_terms_go_by_number_not_by_figures(self):
        told = self.shown(THREE, [leading(0, 10), leading(1, 10)], [leading(0, 9)], [leading(1, 9)])
        self.assertEqual(told, [("two lead", 10, 0, 1), ("two lead", 10, 0, 1), ("two lead", 9, 0, 1)])

    def test_one_house_twice_is_no_breach(self):
        self.assertEqual(self.shown(THREE, [leading(0)], [leading(0)], [sight(0)], [leading(0)]), 4 * [None])

    def test_only_who_leads(self):
        self.assertEqual(self.shown(THREE, [leading(0)], [sight(1)], [sight(2, awake=False)]), 3 * [None])


class TestParted(WatchCase):
    def test_one_term_at_one_place(self):
        for one, other, breach in [
                (entries(number(1)), entries(number(2)), True),
                (entries(number(1)), entries(number(1)), False),
                (entries(number(1)), entries(KEPT), False),
                (entries(KEPT), entries(KEPT), False),
                (entries(NONE), entries(KEPT), True),
                (entries(sets(THREE)), entries(KEPT), True),
                (entries(sets(THREE)), entries(sets(THREE, THREE)), True),
                (entries(number(1)), entries(number(2), term=2), False),
                (entries(number(1)), [], False),
                (entries(number(1)) + entries(number(3), term=2), entries(number(2), term=2), False),
                (entries(number(5)) + entries(number(3), term=3), entries(number(5), term=2), False),
                (entries(number(5)) + entries(number(3), term=3), entries(number(5), number(3), term=3), True),
                (entries(number(5)) + entries(number(3), term=3), entries(number(5), NONE, term=2), False),
                (entries(number(5), number(6), NONE), entries(number(5), number(7)), True),
                (entries(number(5), NONE, number(6)), entries(KEPT, NONE, KEPT), False),
                (entries(number(5), NONE, NONE), entries(KEPT, NONE, KEPT), True)]:
            expected = ("parted", 4, 7) if breach else None
            self.assertEqual(self.shown(THREE, [sight(4, one), sight(7, other)]), [expected], (one, other))
            self.assertEqual(self.shown(THREE, [sight(7, one), sight(4, other)]), [expected], (one, other))

    def test_of_this_list_only(self):
        one, other = entries(number(1)), entries(number(2))
        told = self.shown(THREE, [sight(0, one)], [sight(1, other)], [sight(0, one), sight(1, other)], [],
                          [sight(1, other)])
        self.assertEqual(told, [None, None, ("parted", 0, 1), None, None])

    def test_the_least_one_then_the_least_other(self):
        one, other, third = entries(number(1)), entries(number(2)), entries(number(3))
        for sights, breach in [
                ([sight(3, one), sight(2, other), sight(1, one)], (1, 2)),
                ([sight(10, one), sight(9, other), sight(2, one)], (2, 9)),
                ([sight(5, one), sight(4, third), sight(6, other)], (4, 5)),
                ([sight(5, one), sight(4), sight(6, other)], (5, 6)),
                ([sight(0, entries(KEPT)), sight(1, one), sight(11, other)], (1, 11)),
                ([sight(0), sight(8, entries(KEPT)), sight(7, one), sight(6, other), sight(5, one)], (5, 6))]:
            self.assertEqual(self.shown(MIXED, sights), [("parted", *breach)])

    def test_those_that_sleep_too(self):
        self.assertEqual(self.shown(THREE, [sight(0, entries(number(1)), awake=False),
                                            sight(1, entries(number(2)), awake=False)]), [("parted", 0, 1)])


class TestTurned(WatchCase):
    def test_in_a_later_list(self):
        log = entries(number(1), number(2))
        other = entries(number(1)) + entries(number(3), term=2)
        self.assertEqual(self.last_shown(THREE, [sight(0, log, 2)], [sight(1, other, 2)]), ("turned", 1, 2))
        self.assertEqual(self.last_shown(THREE, [sight(0, log, 2)], [sight(1, other, 1)]), None)
        self.assertEqual(self.last_shown(THREE, [sight(0, log, 1)], [sight(1, other, 2)]), None)
        self.assertEqual(self.last_shown(THREE, [sight(0, log, 2)], [sight(1, log, 2)]), None)

    def test_the_same_house(self):
        log, other = entries(number(1)), entries(number(1), term=2)
        self.assertEqual(self.last_shown(THREE, [sight(0, log, 1)], [sight(0, other, 1)]), ("turned", 0, 1))

    def test_within_one_list_lower_houses_are_shown_first(self):
        one, other = entries(number(1)), entries(number(1), term=2)
        for sights in ([sight(3, one, 1), sight(2, other, 1)], [sight(2, other, 1), sight(3, one, 1)]):
            self.assertEqual(self.shown(THREE, sights), [("turned", 3, 1)])
        self.assertEqual(self.shown(THREE, [sight(2, one, 1), sight(3, other, 1)],
                                    [sight(3, other, 1)], [sight(2, one, 1)]),
                         [("turned", 3, 1), ("turned", 3, 1), None])

    def test_elder_lists_go_ahead(self):
        one, other = entries(number(1)), entries(number(1), term=2)
        self.assertEqual(self.shown(THREE, [sight(7, one, 1)], [sight(0, other, 1), sight(1, one, 1)],
                                    [sight(1, other, 1)]),
                         [None, ("turned", 0, 1), ("turned", 1, 1)])

    def test_by_house_then_place(self):
        log = entries(number(1), number(2), number(3))
        late = entries(number(1), number(2)) + entries(number(3), term=2)
        soon = entries(NONE, NONE, NONE, term=3)
        self.assertEqual(self.last_shown(THREE, [sight(0, log, 3)], [sight(4, soon, 3), sight(3, late, 3)]),
                         ("turned", 3, 3))
        self.assertEqual(self.last_shown(THREE, [sight(0, log, 3)], [sight(4, late, 3), sight(3, soon, 3)]),
                         ("turned", 3, 1))

    def test_kept_gives_way_to_the_first_number_alike_with_it(self):
        kept, one, other = entries(KEPT), entries(number(1)), entries(number(2))
        self.assertEqual(self.last_shown(MIXED, [sight(8, kept, 1)], [sight(0, one, 1)], [sight(1, other, 1)]),
                         ("turned", 1, 1))
        self.assertEqual(self.last_shown(MIXED, [sight(8, kept, 1)], [sight(0, one, 1)], [sight(9, kept, 1)],
                                         [sight(1, one, 1)]), None)
        self.assertEqual(self.shown(MIXED, [sight(8, kept, 1)], [sight(0, one, 1)], [sight(1, other, 1)],
                                    [sight(0, one, 1)], [sight(1, other, 1)]),
                         [None, None, ("turned", 1, 1), None, ("turned", 1, 1)])

    def test_kept_gives_way_to_one_alike_only(self):
        kept, far, one = entries(KEPT), entries(number(1), term=2), entries(number(1))
        self.assertEqual(self.shown(MIXED, [sight(8, kept, 1)], [sight(0, far, 1)], [sight(1, one, 1)],
                                    [sight(0, far, 1)], [sight(2, entries(number(2)), 1)]),
                         [None, ("turned", 0, 1), None, ("turned", 0, 1), ("turned", 2, 1)])
        for strange in (NONE, sets(MIXED)):
            self.assertEqual(self.shown(MIXED, [sight(8, kept, 1)], [sight(0, entries(strange), 1)],
                                        [sight(0, one, 1)]), [None, ("turned", 0, 1), None])

    def test_kept_gives_way_within_one_list(self):
        kept, one, other = entries(KEPT), entries(number(1)), entries(number(2))
        # House 2 has no room in this list, house 3 gives the number, and house 4 turns it; their logs part as well.
        told = self.shown(MIXED, [sight(2, kept, 1)], [sight(4, other, 0), sight(3, one, 1)],
                          [sight(4, other, 1)])
        self.assertEqual(told, [None, ("parted", 3, 4), ("turned", 4, 1)])

    def test_a_number_never_gives_way(self):
        kept, one, other = entries(KEPT), entries(number(1)), entries(number(2))
        self.assertEqual(self.shown(MIXED, [sight(0, one, 1)], [sight(8, kept, 1)], [sight(1, other, 1)]),
                         [None, None, ("turned", 1, 1)])

    def test_told_as_long_as_it_is_shown(self):
        one, other = entries(number(1)), entries(number(1), term=2)
        self.assertEqual(self.shown(THREE, [sight(0, one, 1)], *(5 * [[sight(1, other, 1)]]), [sight(1, other, 0)]),
                         [None, *(5 * [("turned", 1, 1)]), ("fallen", 1)])

    def test_only_what_is_told_as_settled(self):
        one, other = entries(number(1)), entries(number(1), term=2)
        self.assertEqual(self.shown(THREE, [sight(0, one, 0)], [sight(1, other, 1)], [sight(0, one, 0)],
                                    [sight(0, one, 1)]), [None, None, None, ("turned", 0, 1)])


class TestFallen(WatchCase):
    LOG = entries(NONE, NONE, NONE)

    def test_both_sides(self):
        for before, after, breach in [(2, 1, True), (2, 2, False), (2, 3, False), (1, 0, True), (0, 0, False)]:
            told = self.last_shown(THREE, [sight(4, self.LOG, before)], [sight(4, self.LOG, after)])
            self.assertEqual(told, ("fallen", 4) if breach else None)

    def test_only_of_one_awake_in_both(self):
        for before, after, breach in [(True, True, True), (False, True, False), (True, False, False),
                                      (False, False, False)]:
            told = self.last_shown(THREE, [sight(4, self.LOG, 3 if before else 0, awake=before)],
                                   [sight(4, self.LOG, 0, awake=after)])
            self.assertEqual(told, ("fallen", 4) if breach else None)

    def test_one_that_slept_between_is_none(self):
        self.assertIsNone(self.last_shown(THREE, [sight(4, self.LOG, 3)], [sight(4, self.LOG, 0, awake=False)],
                                          [sight(4, self.LOG, 0)]))
        self.assertEqual(self.last_shown(THREE, [sight(4, self.LOG, 3)], [sight(4, self.LOG, 0, awake=False)],
                                         [sight(4, self.LOG, 2)], [sight(4, self.LOG, 1)]), ("fallen", 4))

    def test_the_last_sight_counts_however_long_ago(self):
        others = [[sight(3, self.LOG, 3)], [], [sight(5, self.LOG, 0, awake=False)]]
        self.assertEqual(self.last_shown(THREE, [sight(4, self.LOG, 1)], [sight(4, self.LOG, 3)], *(25 * others),
                                         [sight(4, self.LOG, 2)]), ("fallen", 4))
        told = self.shown(THREE, [sight(4, self.LOG, 3)], [sight(4, self.LOG, 1)], [sight(4, self.LOG, 2)])
        self.assertEqual(told, [None, ("fallen", 4), None])

    def test_the_least_house(self):
        told = self.last_shown(THREE, [sight(house, self.LOG, 3) for house in (7, 2, 10, 4)],
                               [sight(10, self.LOG, 2), sight(7, self.LOG, 0), sight(2, self.LOG, 3),
                                sight(4, self.LOG, 1)])
        self.assertEqual(told, ("fallen", 4))


class TestNoQuorum(WatchCase):
    LOG = entries(NONE, number(1), number(2))

    def led(self, first, log, settled, *others, house=0, before=None, term=1):
        """What is told of one that leads and tells more settled than ahead, beside others."""
        ahead = leading(house, term, log, settled - 1) if before is None else before
        return self.last_shown(first, [ahead], [leading(house, term, log, settled), *others])

    def test_both_sides(self):
        breach = ("no quorum", 0, 2)
        self.assertEqual(self.led(THREE, self.LOG, 2), breach)
        self.assertEqual(self.led(THREE, self.LOG, 2, sight(1, self.LOG[:1])), breach)
        self.assertIsNone(self.led(THREE, self.LOG, 2, sight(1, self.LOG[:2])))
        self.assertIsNone(self.led(THREE, self.LOG, 2, sight(1, self.LOG)))
        self.assertIsNone(self.led(ALONE, self.LOG, 2))
        self.assertEqual(self.led(((0, 1), (), ()), self.LOG, 2), breach)
        self.assertEqual(self.led(THREE, self.LOG, 3, sight(1, self.LOG[:2])), ("no quorum", 0, 3))

    def test_logs_that_are_alike_up_to_the_place(self):
        for log, breach in [
                (self.LOG[:2] + entries(number(9), term=2), False),
                (self.LOG[:1] + entries(number(1), number(2), term=2), True),
                (entries(NONE, KEPT), False), (entries(NONE, KEPT, KEPT), False), (entries(NONE), True), ([], True),
                (entries(NONE, term=2), True)]:
            told = self.led(THREE, self.LOG, 2, sight(1, log))
            self.assertEqual(told, ("no quorum", 0, 2) if breach else None, log)

    def test_those_that_sleep_count(self):
        self.assertIsNone(self.led(THREE, self.LOG, 2, sight(1, self.LOG, awake=False)))

    def test_learners_and_others_do_not_count(self):
        self.assertEqual(self.led(MIXED, self.LOG, 2, *[sight(house, self.LOG) for house in (3, 4, 5, 10, 11)]),
                         ("no quorum", 0, 2))
        kept = entries(NONE, KEPT, KEPT)
        self.assertEqual(self.led(MIXED, self.LOG, 2, sight(8, kept)), ("no quorum", 0, 2))
        self.assertIsNone(self.led(MIXED, self.LOG, 2, sight(8, kept), sight(9, kept)))
        self.assertIsNone(self.led(MIXED, self.LOG, 2, sight(8, kept), sight(1, self.LOG)))

    def test_only_of_this_list(self):
        told = self.shown(THREE, [leading(0, 1, self.LOG, 1), sight(1, self.LOG), sight(2, self.LOG)],
                          [leading(0, 1, self.LOG, 2)])
        self.assertEqual(told, [None, ("no quorum", 0, 2)])

    def test_only_of_one_that_led_in_this_term_in_its_last_sight(self):
        log = self.LOG
        for before, breach in [
                (leading(0, 1, log, 1), True), (leading(0, 1, log, 0), True), (leading(0, 1, log, 2), False),
                (sight(0, log, 1), False), (leading(0, 2, log, 1), False), (sight(0, log, 0, awake=False), False)]:
            self.assertEqual(self.led(THREE, log, 2, before=before), ("no quorum", 0, 2) if breach else None, before)
        self.assertIsNone(self.last_shown(THREE, [leading(0, 1, log, 2)]))
        self.assertIsNone(self.last_shown(THREE, [leading(1, 1, log, 1)], [leading(0, 2, log, 2)]))
        self.assertIsNone(self.last_shown(THREE, [leading(0, 1, log, 1)], [sight(0, log, 2)]))
        self.assertIsNone(self.last_shown(THREE, [leading(0, 1, log, 1)], [sight(0, log, 1)],
                                          [leading(0, 1, log, 2)]))
        self.assertEqual(self.last_shown(THREE, [leading(0, 1, log, 1)], *(9 * [[sight(1)], []]),
                                         [leading(0, 1, log, 2)]), ("no quorum", 0, 2))

    def test_sets_of_two_standings(self):
        joint = (((0, 1, 2), (), ()), ((0, 3, 4), (), ()))
        log = entries(sets(*joint), number(1))
        for others, breach in [((1,), True), ((3,), True), ((1, 2), True), ((1, 3), False), ((2, 4), False),
                               ((5, 6, 1), True)]:
            told = self.led(THREE, log, 2, *[sight(house, log) for house in others])
            self.assertEqual(told, ("no quorum", 0, 2) if breach else None, others)

    def test_the_sets_in_effect_up_to_any_place_from_this_one_on(self):
        log = entries(number(1), sets(THREE, FOUR), sets(FOUR), number(2))
        for settled, others, breach in [
                (1, (1,), False), (1, (3,), True), (2, (1,), True), (2, (1, 2), False), (2, (1, 3), False),
                (3, (1, 3), False), (3, (1,), True), (4, (1, 3), False), (4, (1,), True)]:
            told = self.led(THREE, log, settled, *[sight(house, log) for house in others])
            self.assertEqual(told, ("no quorum", 0, settled) if breach else None, (settled, others))

    def test_later_sets_help_earlier_places(self):
        """The last sets want fewer than those that were in effect at the place."""
        log = entries(number(1), sets(THREE))
        self.assertIsNone(self.led(FOUR, log, 1, sight(1, log)))
        self.assertEqual(self.led(FOUR, log[:1], 1, sight(1, log)), ("no quorum", 0, 1))
        log = entries(number(1), sets(FOUR, THREE), sets(THREE), number(2))
        for settled in (1, 2, 3, 4):
            self.assertIsNone(self.led(FOUR, log, settled, sight(1, log)), settled)
        for settled in (1, 2):
            self.assertEqual(self.led(FOUR, log[:2], settled, sight(1, log)), ("no quorum", 0, settled))

    def test_earlier_sets_help_no_later_places(self):
        log = entries(number(1), sets(((0, 1), (), ())), number(2))
        self.assertIsNone(self.led(ALONE, log, 1))
        self.assertEqual(self.led(ALONE, log, 2), ("no quorum", 0, 2))
        self.assertEqual(self.led(ALONE, log, 3), ("no quorum", 0, 3))

    def test_logs_are_held_against_the_place_not_against_later_ones(self):
        """A house with the entry at the place counts for later sets, too, though it hasn't their entry."""
        log = entries(number(1), sets(THREE))
        self.assertIsNone(self.led(FOUR, log, 1, sight(1, log[:1])))
        self.assertEqual(self.led(FOUR, log, 2, sight(1, log[:1])), ("no quorum", 0, 2))

    def test_itself_counts_only_where_it_votes(self):
        log = entries(number(1), sets(THREE, ((1, 2), (), ())))
        self.assertEqual(self.led(THREE, log, 2, sight(1, log)), ("no quorum", 0, 2))
        self.assertIsNone(self.led(THREE, log, 2, sight(1, log), sight(2, log)))

    def test_the_least_house(self):
        ahead = [leading(2, 1, self.LOG, 1), leading(1, 2, self.LOG[:2], 1)]
        for first, settled, breach in [(THREE, 2, None), (THREE, 3, ("no quorum", 2, 3)),
                                       (((1, 2, 3, 4), (), ()), 3, ("no quorum", 1, 2))]:
            told = self.last_shown(first, ahead, [leading(2, 1, self.LOG, settled), leading(1, 2, self.LOG[:2], 2)])
            self.assertEqual(told, breach)


class TestNoSeat(WatchCase):
    def test_without_entries_of_sets(self):
        for house, breach in [(0, False), (2, False), (3, True), (4, True), (8, True), (10, True)]:
            for log in ([], entries(NONE, KEPT)):
                told = self.shown(MIXED, [leading(house, 1, log)])
                self.assertEqual(told, [("no seat", house) if breach else None], house)
                self.assertEqual(self.shown(MIXED, [sight(house, log)]), [None])

    def test_the_sets_in_effect_or_those_ahead(self):
        gone = ((0, 1), (8,), (2,))
        away = ((0, 1), (8,), ())
        first = ((0, 1, 2), (8,), ())
        both = (first, gone)
        for log, breach in [
                (entries(sets(*both)), False), (entries(sets(gone)), False), (entries(sets(*both), sets(gone)), False),
                (entries(sets(gone), sets(gone)), True), (entries(sets(*both), sets(gone), sets(away)), True),
                (entries(sets(*both), sets(gone), sets(gone, first)), False),
                (entries(sets(*both), sets(gone), sets(gone, first), sets(first)), False),
                (entries(sets(gone), sets(first)), False), (entries(sets(gone), NONE, sets(away), KEPT), True),
                (entries(*(7 * [sets(first), sets(*both), sets(gone), sets(gone, first)])), False),
                (entries(*(7 * [sets(first), sets(*both), sets(gone), sets(away)])), True)]:
            told = self.shown(first, [leading(2, 1, log)])
            self.assertEqual(told, [("no seat", 2) if breach else None], log)

    def test_a_voter_of_one_of_two_standings(self):
        joint = (((0, 1), (), (2,)), ((0, 1, 2), (), ()))
        for house, breach in [(0, False), (2, False), (3, True)]:
            told = self.shown(((0, 1), (), ()), [leading(house, 1, entries(sets(joint[0]), sets(*joint)))])
            self.assertEqual(told, [("no seat", house) if breach else None])
        self.assertEqual(self.shown(((0, 1), (), (2,)), [leading(2, 1, entries(sets(joint[0])))]), [("no seat", 2)])

    def test_the_least_house(self):
        told = self.shown(MIXED, [leading(9, 1), leading(4, 2), leading(1, 3), leading(6, 4)])
        self.assertEqual(told, [("no seat", 4)])


class TestMissed(WatchCase):
    def test_the_first_ones_of_a_log_against_the_first_standing(self):
        for first, told in [(THREE, ("missed", 6, 1)), (FAR, None), (((5, 6), (), ()), None),
                            (((4, 5, 6, 7), (), ()), None), (((3, 4, 5, 6, 7), (), ()), ("missed", 6, 1)),
                            (((5,), (), ()), ("missed", 6, 1))]:
            self.assertEqual(self.shown(first, [sight(6, entries(sets(FAR)))]), [told], first)

    def test_each_against_those_ahead(self):
        joint = (THREE, FAR)
        for log, place in [
                (entries(sets(*joint), sets(FAR)), None), (entries(sets(*joint), sets(THREE)), None),
                (entries(sets(FAR)), 1), (entries(NONE, KEPT, sets(FAR)), 3),
                (entries(sets(THREE), NONE, sets(FAR)), 3),
                (entries(sets(*joint), sets(FAR), number(1), sets(THREE)), 4),
                (entries(sets(*joint), sets(FAR), sets(*joint), sets(THREE), sets(FAR), sets(THREE)), 5),
                (entries(sets(FOUR), sets(((0, 1, 2, 3, 4, 5), (), ()))), None),
                (entries(sets(FOUR), sets(((0, 1, 2, 3, 4, 5, 6), (), ()))), 2),
                (entries(sets(((0, 1, 2), (8,), ())), sets(((0, 1, 2), (8, 9, 10), ()))), None),
                (entries(sets(((0, 1, 2), (8,), ())), sets(((0, 1, 2), (8, 9, 10, 11), ()))), 2)]:
            self.assertEqual(self.shown(THREE, [sight(6, log)]), [None if place is None else ("missed", 6, place)], log)

    def test_the_same_sets_again(self):
        for one in [(THREE,), (MIXED,), (THREE, FAR), (((0, 1), (8, 9), ()),), (((0,), (8, 9, 10, 11), ()),)]:
            first = one[0]
            self.assertEqual(self.shown(first, [sight(6, entries(sets(*one), sets(*one), sets(*one)))]), [None])

    def test_by_house_then_place(self):
        good, bad = entries(sets(THREE), sets(THREE)), entries(sets(THREE), sets(FAR), sets(THREE))
        worse = entries(sets(FAR), term=2)
        self.assertEqual(self.shown(THREE, [sight(5, worse), sight(2, bad), sight(1, good[:1])]), [("missed", 2, 2)])
        self.assertEqual(self.shown(THREE, [sight(2, worse), sight(5, bad), sight(1, good[:1])]), [("missed", 2, 1)])

    def test_of_all_that_are_shown_each_time(self):
        log = entries(sets(FAR))
        told = self.shown(THREE, [sight(3, log, awake=False)], [], [sight(3, log)], [sight(3)])
        self.assertEqual(told, [("missed", 3, 1), None, ("missed", 3, 1), None])


class TestOrder(WatchCase):
    def test_several_breaches_in_one_list(self):
        """Each breach is taken away in turn, the first one first."""
        ahead = [leading(0, 3, entries(number(1), number(2)), 1), sight(6, entries(number(1)), 1)]
        parts = {
            "two lead": leading(1, 3),
            "parted": sight(2, entries(number(8))),
            "turned": sight(5, entries(number(1), term=2), 1),
            "fallen": sight(6, entries(number(1)), 0),
            "no quorum": leading(0, 3, entries(number(1), number(2)), 2),
            "no seat": leading(9, 7),
            "missed": sight(4, entries(sets(FAR), term=9)),
        }
        first = ((0, 1, 2), (9,), ())
        expected = [("two lead", 3, 0, 1), ("parted", 0, 2), ("turned", 5, 1), ("fallen", 6), ("no quorum", 0, 2),
                    ("no seat", 9), ("missed", 4, 1), None]
        for dropped, breach in enumerate(expected):
            sights = list(parts.values())[dropped:]
            for shown in (sights, sights[::-1]):
                self.assertEqual(self.last_shown(first, ahead, shown), breach)

    def test_a_sight_with_a_breach_is_shown_all_the_same(self):
        log = entries(number(1), number(2))
        told = self.shown(THREE, [leading(0, 1, log, 2), leading(1, 1, log, 2)], [sight(0, log, 1)],
                          [sight(2, entries(number(9), term=3), 1)])
        self.assertEqual(told, 3 * [("two lead", 1, 0, 1)])
        told = self.shown(THREE, [sight(0, log, 2), sight(1, entries(number(3)), 1)], [sight(0, log, 1)],
                          [sight(2, entries(number(1), number(9), term=3), 2)], [sight(1, entries(number(3)))])
        self.assertEqual(told, [("parted", 0, 1), ("fallen", 0), ("turned", 2, 1), ("fallen", 1)])
        told = self.shown(THREE, [leading(4, 2, log, 1)], [leading(4, 2, log, 2)], [leading(4, 2, log, 2)])
        self.assertEqual(told, [("no seat", 4), ("no quorum", 4, 2), ("no seat", 4)])


class TestSettled(WatchCase):
    def settled(self, first, *lists):
        watch = Watch(first)
        told = []
        for sights in lists:
            watch.show(sights)
            told.append(watch.settled())
        return told

    def test_place_by_place(self):
        log = entries(NONE, number(1), sets(THREE), number(2))
        self.assertEqual(Watch(THREE).settled(), [])
        told = self.settled(THREE, [], [sight(5, log, 0)], [sight(7, log[:3], 2), sight(3, log, 1)], [],
                            [sight(0, log[:1], 1)], [sight(1, log, 3)], [sight(1, log, 4)])
        self.assertEqual(told, [[], [], log[:2], log[:2], log[:2], log[:3], log])
        self.assertEqual(form_of(told[-1]), form_of(log))

    def test_kept_entries_and_numbers(self):
        log, kept = entries(NONE, number(1), number(2)), entries(NONE, KEPT, KEPT)
        told = self.settled(MIXED, [sight(8, kept, 3)], [sight(1, log, 2)], [sight(9, kept, 3), sight(2, log, 3)],
                            [sight(8, kept, 3)])
        self.assertEqual(told, [kept, log[:2] + kept[2:], log, log])
        told = self.settled(MIXED, [sight(9, kept, 3), sight(0, log, 1), sight(7, log, 3)])
        self.assertEqual(told, [log])

    def test_while_breaches_are_told(self):
        one, other = entries(number(1)), entries(number(3), number(4), term=2)
        told = self.settled(THREE, [sight(0, one, 1), sight(1, one, 1)], [sight(2, other, 2)], [leading(4, 2, other, 1)])
        self.assertEqual(told, [one, one + other[1:], one + other[1:]])
        # What isn't alike takes no place, whichever of a list's houses comes first.
        told = self.settled(THREE, [sight(2, one, 1), sight(1, other, 2)])
        self.assertEqual(told, [other])

    def test_told_lists_are_the_askers_own(self):
        watch = Watch(THREE)
        log = entries(NONE, number(1))
        watch.show([sight(0, log, 2)])
        told = watch.settled()
        self.assertIs(type(told), list)
        told.append(7)
        told[0] = 3
        self.assertEqual(watch.settled(), log)
        watch.settled().clear()
        self.assertEqual(watch.settled(), log)
        self.assertIsNone(watch.show([sight(0, log, 2)]))

    def test_what_was_handed_in_may_be_changed(self):
        first = as_lists(THREE)
        watch = Watch(first)
        first[0][:] = [7]
        log = as_lists(entries(NONE, number(1), sets(THREE)))
        sights = [as_lists(sight(0, log, 3))]
        before = repr(sights)
        self.assertIsNone(watch.show(sights))
        self.assertEqual(repr(sights), before)
        other = Watch(THREE)
        other.show(as_tuples(sights))
        log[1][1][1] = 9
        sights[0][4][0][0] = 5
        sights[0][4][2][1][1][0][0].append(6)
        sights[0][5] = 0
        del sights[0][4][1:]
        sights.clear()
        self.assertEqual(watch.settled(), entries(NONE, number(1), sets(THREE)))
        self.assertTrue(watch == other)
        self.assertEqual(watch.show([sight(0, entries(NONE, number(1), sets(THREE)), 2)]), ("fallen", 0))

    def test_forms_in_turns(self):
        log = entries(NONE, number(1), sets(THREE, THREE))
        watch = Watch(THREE)
        for place, form in enumerate([list, as_lists, as_tuples, as_lists, list, as_tuples]):
            self.assertIsNone(watch.show(form([sight(0, log, 1 + place // 2), sight(1, log)])))
            self.assertEqual(form_of(watch.settled()), form_of(log[:1 + place // 2]))


if __name__ == "__main__":
    unittest.main()
