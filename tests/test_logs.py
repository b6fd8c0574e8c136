"""Logs: what is alike in them, the sets in effect, and what may be told as settled (points 11, 12 and 13)."""

import unittest

from jointseat.logs import agree, alike_up_to, as_new, kept_log, sets_by, settled_by

from support import (STRANGERS, as_lists, as_tuples, chance_of, first_as_list, form_of, slow_agree, slow_alike_up_to,
                     slow_is_quorum, slow_sets_by, some_log, some_standing)

FIRST = ((0, 1, 2), (8,), (3,))
JOINT = (FIRST, ((0, 1), (8,), (2, 3)))
BIG = 10 ** 30 - 1
EVERY_KIND = [(1, ("none",)), (1, ("number", 5)), (2, ("sets", JOINT)), (2, ("kept",)), (4, ("number", -BIG)),
              (4, ("sets", (FIRST,)))]


def slow_settled_by(log, first, term, places):
    sets = slow_sets_by(log, first)
    for place in range(len(log), 0, -1):
        if log[place - 1][0] == term and slow_is_quorum(sets, [house for house, far in places if far >= place]):
            return place
    return 0


def near_log(chance, log):
    """A log that begins as another one does."""
    near = [(term, ("kept",)) if what[0] == "number" and chance.random() < 0.3 else (term, what)
            for term, what in log[:chance.randint(0, len(log))]]
    last = near[-1][0] if near else 0
    return near + [(last + term, what) for term, what in some_log(chance, chance.randint(0, 4))]


def some_pairs(seed, many):
    chance = chance_of(seed)
    for _ in range(many):
        log = some_log(chance, chance.choice([0, 1, 2, 3, 5, 8, 13]))
        yield log, (near_log(chance, log) if chance.random() < 0.8 else some_log(chance, chance.randint(0, 9)))


def in_any_kind(place, log):
    return [log, as_lists(log), as_tuples(log), list(map(list, log)), tuple(map(as_lists, log))][place % 5]


class TestKeptLog(unittest.TestCase):
    def test_numbers_give_way(self):
        self.assertEqual(kept_log([]), [])
        self.assertEqual(kept_log(()), [])
        self.assertEqual(kept_log(EVERY_KIND), [
            (1, ("none",)), (1, ("kept",)), (2, ("sets", JOINT)), (2, ("kept",)), (4, ("kept",)),
            (4, ("sets", (FIRST,)))])

    def test_kinds_and_kept_again(self):
        chance = chance_of(11)
        for place in range(60):
            log = some_log(chance, chance.choice([0, 1, 5, 20, 300]) if place else 300)
            told = kept_log(in_any_kind(place, log))
            expected = [(term, ("kept",) if what[0] == "number" else what) for term, what in log]
            self.assertEqual(told, expected)
            self.assertEqual(form_of(told), form_of(expected))
            self.assertEqual(kept_log(told), expected)

    def test_the_told_list_is_the_askers_own(self):
        handed = as_lists(EVERY_KIND)
        told = kept_log(handed)
        expected = list(told)
        handed[2][1][1][0][0].append(7)
        handed[0][0] = 9
        self.assertEqual(told, expected)
        told.clear()
        self.assertEqual(kept_log(EVERY_KIND), expected)
        self.assertEqual(len(EVERY_KIND), 6)


class TestAlike(unittest.TestCase):
    def both(self, one, other, upto):
        for place in range(5):
            a, b = in_any_kind(place, one), in_any_kind(place + 1, other)
            before = form_of([a, b])
            self.assertEqual((alike_up_to(a, b), alike_up_to(b, a)), (upto, upto), (one, other))
            self.assertEqual(form_of([a, b]), before)

    def test_entries(self):
        self.both([], [], 0)
        self.both([], EVERY_KIND, 0)
        self.both(EVERY_KIND, EVERY_KIND, 6)
        self.both(EVERY_KIND, kept_log(EVERY_KIND), 6)
        self.both([(1, ("number", 5))], [(1, ("kept",))], 1)
        self.both([(1, ("kept",))], [(1, ("kept",))], 1)
        self.both([(1, ("kept",))], [(2, ("kept",))], 0)
        self.both([(1, ("number", 5))], [(2, ("kept",))], 0)
        self.both([(1, ("number", 5))], [(2, ("number", 5))], 0)
        self.both([(1, ("number", 5))], [(1, ("number", 6))], 0)
        self.both([(1, ("number", BIG))], [(1, ("number", BIG))], 1)
        self.both([(1, ("number", BIG))], [(1, ("number", BIG - 1))], 0)
        self.both([(1, ("none",))], [(1, ("kept",))], 0)
        self.both([(1, ("none",))], [(1, ("number", 0))], 0)
        self.both([(1, ("sets", (FIRST,)))], [(1, ("kept",))], 0)
        self.both([(1, ("sets", (FIRST,)))], [(1, ("sets", JOINT))], 0)

    def test_the_first_unlike_entry_ends_it(self):
        one = [(1, ("number", place)) for place in range(300)]
        other = list(one)
        self.both(one, other, 300)
        other[299] = (1, ("number", -1))
        self.both(one, other, 299)
        other[150] = (1, ("none",))
        self.both(one, other, 150)
        self.both(one, other[:150], 150)
        other[0] = (1, ("number", 7))
        self.both(one, other, 0)

    def test_against_going_over_all_places(self):
        for place, (one, other) in enumerate(some_pairs(12, 400)):
            upto = slow_alike_up_to(one, other)
            self.assertEqual(alike_up_to(in_any_kind(place, one), in_any_kind(place // 5, other)), upto)
            self.assertEqual(alike_up_to(other, one), upto)
            self.assertIs(type(upto), int)


class TestAsNew(unittest.TestCase):
    def told(self, one, other, answer):
        for place in range(5):
            self.assertIs(as_new(in_any_kind(place, one), in_any_kind(place + 2, other)), answer, (one, other))

    def test_terms_go_ahead_of_lengths(self):
        none = ("none",)
        self.told([], [], True)
        self.told([(1, none)], [], True)
        self.told([], [(1, none)], False)
        self.told([(2, none)], [(1, none)] * 300, True)
        self.told([(1, none)] * 300, [(2, none)], False)
        self.told([(1, none), (2, none)], [(2, none), (2, none)], True)
        self.told([(1, none), (2, none)], [(1, none), (2, none), (2, none)], False)
        self.told([(1, none), (2, none), (2, none)], [(2, none)], True)
        self.told([(BIG, none)], [(BIG - 1, none), (BIG - 1, none)], True)

    def test_against_the_words(self):
        for place, (one, other) in enumerate(some_pairs(13, 300)):
            mine, theirs = [log[-1][0] if log else 0 for log in (one, other)]
            answer = mine > theirs or (mine == theirs and len(one) >= len(other))
            self.assertIs(as_new(in_any_kind(place, one), in_any_kind(place // 2, other)), answer)


class TestAgree(unittest.TestCase):
    def both(self, one, other, answer):
        for place in range(5):
            a, b = in_any_kind(place, one), in_any_kind(place + 3, other)
            self.assertIs(agree(a, b), answer, (one, other))
            self.assertIs(agree(b, a), answer, (one, other))

    def test_an_unlike_entry_ahead(self):
        head = [(1, ("number", 1)), (1, ("number", 2))]
        self.both([], [], True)
        self.both([], head, True)
        self.both(head, head, True)
        self.both(head + [(2, ("none",))], head + [(3, ("none",))], True)
        self.both(head + [(2, ("none",)), (4, ("none",))], head + [(3, ("none",)), (4, ("none",))], False)
        self.both([(1, ("none",)), (3, ("none",))], [(2, ("none",)), (3, ("none",))], False)
        self.both([(1, ("number", 1))], [(1, ("number", 2))], False)
        self.both([(1, ("number", 1))], [(2, ("number", 2))], True)
        self.both([(1, ("number", 1)), (1, ("none",))], [(1, ("kept",)), (1, ("none",))], True)
        self.both([(1, ("sets", (FIRST,)))], [(1, ("kept",))], False)

    def test_the_last_shared_term_counts(self):
        one = [(1, ("none",)), (2, ("none",)), (5, ("none",)), (5, ("none",))]
        other = [(1, ("none",)), (2, ("none",)), (4, ("none",)), (6, ("none",))]
        self.both(one, other, True)
        self.both(one, other[:3] + [(5, ("none",))], False)

    def test_against_going_over_all_places(self):
        seen = {True: 0, False: 0}
        for place, (one, other) in enumerate(some_pairs(14, 500)):
            answer = slow_agree(one, other)
            self.assertIs(agree(in_any_kind(place, one), in_any_kind(place // 5, other)), answer, (one, other))
            self.assertIs(agree(other, one), answer)
            seen[answer] += 1
        self.assertGreater(min(seen.values()), 50)


class TestSetsBy(unittest.TestCase):
    def test_the_last_ones(self):
        self.assertEqual(sets_by([], FIRST), (FIRST,))
        self.assertEqual(sets_by([(1, ("none",)), (1, ("kept",))], FIRST), (FIRST,))
        self.assertEqual(sets_by(EVERY_KIND, ((5,), (), ())), (FIRST,))
        self.assertEqual(sets_by(EVERY_KIND[:-1], ((5,), (), ())), JOINT)

    def test_kinds(self):
        chance = chance_of(15)
        for place in range(100):
            first = some_standing(chance)
            log = some_log(chance, chance.choice([0, 1, 3, 300]))
            handed = [first, as_lists(first), first_as_list([first])[0]][place % 3]
            told = sets_by(in_any_kind(place, log), handed)
            self.assertEqual(told, slow_sets_by(log, first))
            self.assertEqual(form_of(told), form_of(slow_sets_by(log, first)))

    def test_handed_lists_stay_the_askers_own(self):
        first, log = as_lists(FIRST), as_lists(EVERY_KIND[:3])
        told = [sets_by([], first), sets_by(log, first)]
        first[0].append(7)
        log[2][1][1][0][0].append(7)
        self.assertEqual(told, [(FIRST,), JOINT])


class TestSettledBy(unittest.TestCase):
    three = ((0, 1, 2), (), ())

    def log_of(self, *terms):
        return [(term, ("number", place)) for place, term in enumerate(terms)]

    def test_a_quorum_of_places(self):
        log = self.log_of(1, 1, 2, 2, 2)
        for places, expected in [([], 0), ([(0, 5)], 0), ([(0, 5), (1, 4)], 4), ([(0, 4), (1, 5), (2, 5)], 5),
                                 ([(0, 5), (1, 3), (2, 0)], 3), ([(0, 5), (1, 2)], 0), ([(0, 5), (1, 2), (2, 3)], 3),
                                 ([(0, 5), (3, 5), (4, 5), (8, 5)], 0), ([(1, 5), (2, 5)], 5)]:
            for kind in (list, tuple):
                handed = kind([kind(pair) for pair in places])
                self.assertEqual(settled_by(log, self.three, term=2, places=handed), expected, places)

    def test_only_entries_of_the_term_count(self):
        log = self.log_of(1, 1, 3, 3, 7)
        for term, reach, expected in [(1, 5, 2), (1, 1, 1), (3, 5, 4), (3, 4, 4), (3, 3, 3), (3, 2, 0), (7, 5, 5),
                                      (7, 4, 0), (2, 5, 0), (5, 5, 0), (8, 5, 0), (BIG, 5, 0)]:
            self.assertEqual(settled_by(log, self.three, term=term, places=[(0, reach), (1, reach)]), expected)
        self.assertEqual(settled_by([], self.three, term=1, places=[(0, 5), (1, 5)]), 0)

    def test_places_of_all_sizes(self):
        log = self.log_of(1, 1, 1)
        for far in (3, 4, 300, BIG):
            self.assertEqual(settled_by(log, self.three, term=1, places=[(0, far), (2, far + 1)]), 3)
        for near in (0, -1, -BIG):
            self.assertEqual(settled_by(log, self.three, term=1, places=[(0, 3), (1, near)]), 0)
            self.assertEqual(settled_by(log, self.three, term=1, places=[(0, near), (1, near)]), 0)
        self.assertEqual(settled_by(log, self.three, term=1, places=[(0, BIG), (1, 2), (2, -BIG)]), 2)

    def test_the_sets_in_effect_by_the_whole_log(self):
        log = [(1, ("none",)), (1, ("number", 5)), (1, ("sets", (self.three, ((2, 3, 4), (), ())))), (1, ("none",))]
        places = [(0, 4), (1, 4), (2, 2)]
        self.assertEqual(settled_by(log, self.three, term=1, places=places), 0)
        self.assertEqual(settled_by(log[:2], self.three, term=1, places=places), 2)
        self.assertEqual(settled_by(log, self.three, term=1, places=places + [(3, 2)]), 2)
        self.assertEqual(settled_by(log, self.three, term=1, places=[(0, 4), (1, 4), (3, 4), (4, 4)]), 4)
        last = log + [(1, ("sets", (((5,), (), ()),)))]
        self.assertEqual(settled_by(last, self.three, term=1, places=[(5, 1)]), 1)
        self.assertEqual(settled_by(last, self.three, term=1, places=[(0, 5), (1, 5), (2, 5)]), 0)

    def test_witnesses_want_a_voter(self):
        first = ((0,), (8, 9), ())
        log = self.log_of(1, 1)
        self.assertEqual(settled_by(log, first, term=1, places=[(8, 2), (9, 2)]), 0)
        self.assertEqual(settled_by(log, first, term=1, places=[(8, 2), (9, 2), (0, 1)]), 1)

    def test_strangers_count_nothing(self):
        log = self.log_of(1, 1)
        places = [(number, 2) for number in STRANGERS] + [(7, 2), (11, 2), (0, 2)]
        self.assertEqual(settled_by(log, self.three, term=1, places=places), 0)
        self.assertEqual(settled_by(log, self.three, term=1, places=places + [(1, 1)]), 1)

    def test_against_going_over_all_places(self):
        chance = chance_of(16)
        for place in range(400):
            first = some_standing(chance)
            log = some_log(chance, chance.choice([0, 1, 4, 9, 30]))
            last = log[-1][0] if log else 1
            houses = chance.sample(range(12), chance.randint(0, 12))
            places = [(house, chance.choice([-1, 0, len(log), BIG, chance.randint(0, len(log) + 1)]))
                      for house in houses]
            term = chance.choice([last, last, max(1, last - 1), last + 1, 1])
            handed = (in_any_kind(place, log), as_lists(first) if place % 2 else first)
            before = as_lists(places)
            told = settled_by(*handed, term=term, places=in_any_kind(place // 3, places))
            self.assertEqual(told, slow_settled_by(log, first, term, places), (log, first, term, places))
            self.assertEqual(as_lists(places), before)


if __name__ == "__main__":
    unittest.main()
