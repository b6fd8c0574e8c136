"""Edits, ways and rows of sets (points 8, 9 and 10, and 4 as far as it rests on them)."""

import unittest

from jointseat.changes import changed, first_miss, way, way_of
from jointseat.errors import NoChange
from jointseat.standings import missed, missed_shows

from support import (STRANGERS, as_lists, chance_of, first_as_list, form_of, refusal_of, slow_missed, some_sets,
                     some_standing)

WORDS = ["learner", "voter", "witness", "leave"]
STANDING = ((0, 1, 4), (8, 10), (2, 6))
STANDING_FORM = form_of(STANDING)[0], [tuple, tuple, tuple]


def slow_changed(standing, edit):
    """The standing behind an edit by the words of the point, None where it is refused."""
    word, house = edit
    parts = [set(part) for part in standing]
    somewhere = [part for part in parts if house in part]
    for part in parts:
        part.discard(house)
    if word == "learner":
        fits = house in standing[0] or (not somewhere and house in range(8))
        parts[2].add(house)
    elif word == "voter":
        fits = house in standing[2]
        parts[0].add(house)
    elif word == "witness":
        fits = not somewhere and house in range(8, 12)
        parts[1].add(house)
    else:
        fits = bool(somewhere)
    if not fits or not parts[0] or len(parts[0]) + len(parts[1]) > 7:
        return None
    return tuple(tuple(sorted(part)) for part in parts)


class TestChanged(unittest.TestCase):
    def refuse(self, standing, edit):
        for handed in (standing, as_lists(standing)):
            for way_of_handing in (tuple(edit), list(edit)):
                before = as_lists(handed)
                error = refusal_of(changed, handed, way_of_handing)
                self.assertIs(type(error), NoChange, (standing, edit))
                self.assertIsNone(error.at)
                self.assertEqual(as_lists(handed), before)
                self.assertEqual(list(way_of_handing), list(edit))

    def tell(self, standing, edit, expected):
        for handed in (standing, as_lists(standing), tuple(first_as_list([standing])[0])):
            for way_of_handing in (tuple(edit), list(edit)):
                before = as_lists(handed)
                told = changed(handed, way_of_handing)
                self.assertEqual(told, expected)
                self.assertEqual((type(told), [type(part) for part in told]), STANDING_FORM)
                self.assertEqual(as_lists(handed), before)
                self.assertEqual(list(way_of_handing), list(edit))

    def test_learner(self):
        self.tell(STANDING, ("learner", 3), ((0, 1, 4), (8, 10), (2, 3, 6)))
        self.tell(STANDING, ("learner", 7), ((0, 1, 4), (8, 10), (2, 6, 7)))
        self.tell(STANDING, ("learner", 1), ((0, 4), (8, 10), (1, 2, 6)))
        for house in (2, 6, 8, 9, 10, 11):
            self.refuse(STANDING, ("learner", house))

    def test_voter(self):
        self.tell(STANDING, ("voter", 2), ((0, 1, 2, 4), (8, 10), (6,)))
        self.tell(STANDING, ("voter", 6), ((0, 1, 4, 6), (8, 10), (2,)))
        for house in (0, 1, 3, 4, 5, 7, 8, 9, 10, 11):
            self.refuse(STANDING, ("voter", house))

    def test_witness(self):
        self.tell(STANDING, ("witness", 9), ((0, 1, 4), (8, 9, 10), (2, 6)))
        self.tell(STANDING, ("witness", 11), ((0, 1, 4), (8, 10, 11), (2, 6)))
        for house in (0, 1, 2, 3, 4, 5, 6, 7, 8, 10):
            self.refuse(STANDING, ("witness", house))

    def test_leave(self):
        self.tell(STANDING, ("leave", 0), ((1, 4), (8, 10), (2, 6)))
        self.tell(STANDING, ("leave", 10), ((0, 1, 4), (8,), (2, 6)))
        self.tell(STANDING, ("leave", 6), ((0, 1, 4), (8, 10), (2,)))
        for house in (3, 5, 7, 9, 11):
            self.refuse(STANDING, ("leave", house))

    def test_numbers_that_are_no_house(self):
        for word in WORDS:
            for number in STRANGERS:
                self.refuse(STANDING, (word, number))

    def test_the_last_voter(self):
        for last in (((3,), (), ()), ((3,), (8, 9), (1, 2))):
            self.refuse(last, ("leave", 3))
            self.refuse(last, ("learner", 3))
        self.tell(((3, 5), (8,), ()), ("leave", 3), ((5,), (8,), ()))
        self.tell(((3, 5), (8,), ()), ("learner", 5), ((3,), (8,), (5,)))

    def test_the_seventh_and_the_eighth_that_votes(self):
        self.tell(((0, 1, 2, 3, 4, 5), (), (6,)), ("voter", 6), ((0, 1, 2, 3, 4, 5, 6), (), ()))
        self.tell(((0, 1, 2), (8, 9, 10), ()), ("witness", 11), ((0, 1, 2), (8, 9, 10, 11), ()))
        self.tell(((0, 1, 2), (8, 9, 10), (5,)), ("voter", 5), ((0, 1, 2, 5), (8, 9, 10), ()))
        self.refuse(((0, 1, 2, 3, 4, 5, 6), (), (7,)), ("voter", 7))
        self.refuse(((0, 1, 2, 3, 4, 5, 6), (), ()), ("witness", 8))
        self.refuse(((0, 1, 2), (8, 9, 10, 11), (5,)), ("voter", 5))
        self.refuse(((0, 1, 2, 3), (8, 9, 10), ()), ("witness", 11))

    def test_seven_that_vote_let_the_other_edits_be(self):
        full = ((0, 1, 2, 3, 4, 5, 6), (), ())
        self.tell(full, ("learner", 7), ((0, 1, 2, 3, 4, 5, 6), (), (7,)))
        self.tell(full, ("learner", 0), ((1, 2, 3, 4, 5, 6), (), (0,)))
        self.tell(full, ("leave", 6), ((0, 1, 2, 3, 4, 5), (), ()))

    def test_against_the_words_over_every_edit(self):
        chance = chance_of(6)
        for _ in range(120):
            standing = some_standing(chance)
            for word in WORDS:
                for house in [*range(12), -1, 12]:
                    expected = slow_changed(standing, (word, house))
                    if expected is None:
                        error = refusal_of(changed, standing, (word, house))
                        self.assertIs(type(error), NoChange, (standing, word, house))
                        self.assertIsNone(error.at)
                    else:
                        self.assertEqual(changed(standing, (word, house)), expected, (standing, word, house))

    def test_arguments_by_place(self):
        self.assertEqual(changed(STANDING, ("leave", 0)), ((1, 4), (8, 10), (2, 6)))


class TestWay(unittest.TestCase):
    old = ((0, 1), (8,), (2, 3))

    def tell(self, old, new, expected):
        for handed in ((old, new), (as_lists(old), new), (old, as_lists(new)), first_as_list((old, new))):
            before = as_lists(handed)
            told = way(*handed)
            self.assertEqual(told, expected)
            self.assertIs(type(told), list)
            self.assertEqual(form_of(told), form_of(expected))
            self.assertEqual(as_lists(handed), before)

    def test_alike_standings(self):
        self.tell(self.old, self.old, [])
        self.tell(((5,), (), ()), ((5,), (), ()), [])

    def test_other_learners_alone(self):
        for learners in ((), (2,), (2, 3, 4), (5, 6)):
            new = ((0, 1), (8,), learners)
            self.tell(self.old, new, [(new,)])

    def test_other_voters_or_witnesses(self):
        for new in (((0,), (8,), (2, 3)), ((0, 1, 2), (8,), (3,)), ((0, 1), (), (2, 3)), ((0, 1), (9,), (2, 3)),
                    ((0, 1), (8, 9), ()), ((4, 5), (10,), ())):
            self.tell(self.old, new, [(self.old, new), (new,)])

    def test_a_told_list_is_the_askers_own(self):
        old, new = [[0, 1], [8], []], [[0, 2], [8], []]
        told = way(old, new)
        expected = list(told)
        told.append(0)
        told[0] = 1
        self.assertEqual((old, new), ([[0, 1], [8], []], [[0, 2], [8], []]))
        self.assertEqual(way(old, new), expected)
        kept = way(old, new)
        old[0].append(5)
        new.clear()
        self.assertEqual(kept, expected)

    def test_an_empty_way_is_the_askers_own(self):
        told = way(self.old, self.old)
        told.append(0)
        self.assertEqual(way(self.old, self.old), [])


FIRST = ((0, 1, 2), (), ())
EDITS = [("learner", 3), ("voter", 3), ("witness", 8), ("leave", 0), ("leave", 3), ("leave", 8)]


class TestWayOf(unittest.TestCase):
    def test_no_edits(self):
        for edits in ([], ()):
            told = way_of(FIRST, edits)
            self.assertEqual(form_of(told), (list, []))
            told.append(0)
        self.assertEqual(way_of(FIRST, []), [])

    def test_one_edit(self):
        self.assertEqual(way_of(FIRST, [("learner", 3)]), [(((0, 1, 2), (), (3,)),)])
        smaller = ((1, 2), (), ())
        self.assertEqual(way_of(FIRST, [("leave", 0)]), [(FIRST, smaller), (smaller,)])

    def test_an_edit_and_the_one_that_takes_it_back(self):
        back = [("learner", 3), ("leave", 3)]
        self.assertEqual(way_of(FIRST, back), [(((0, 1, 2), (), (3,)),), (FIRST,)])
        seated = ((0, 1, 2), (8,), ())
        self.assertEqual(
            way_of(FIRST, [("witness", 8), ("leave", 8)]),
            [(FIRST, seated), (seated,), (seated, FIRST), (FIRST,)])

    def test_many_edits(self):
        a = ((0, 1, 2), (), (3,))
        b = ((0, 1, 2, 3), (), ())
        c = ((0, 1, 2, 3), (8,), ())
        d = ((1, 2, 3), (8,), ())
        e = ((1, 2), (8,), ())
        f = ((1, 2), (), ())
        expected = [(a,), (a, b), (b,), (b, c), (c,), (c, d), (d,), (d, e), (e,), (e, f), (f,)]
        for handed in (FIRST, as_lists(FIRST)):
            for edits in (EDITS, tuple(EDITS), as_lists(EDITS)):
                before = as_lists(handed), as_lists(edits)
                told = way_of(handed, edits)
                self.assertEqual(told, expected)
                self.assertEqual(form_of(told), form_of(expected))
                self.assertEqual((as_lists(handed), as_lists(edits)), before)
                told.clear()

    def test_the_place_of_the_first_that_is_refused(self):
        cases = [
            (0, [("voter", 3)]),
            (0, [("leave", 5), ("voter", 7), ("learner", 3)]),
            (1, [("leave", 0), ("leave", 0)]),
            (1, [("learner", 3), ("learner", 3), ("leave", 9)]),
            (2, [("leave", 0), ("leave", 1), ("leave", 2)]),
            (2, [("leave", 0), ("leave", 1), ("learner", 2)]),
            (6, EDITS + [("leave", 8)]),
            (4, [("witness", 8), ("witness", 9), ("witness", 10), ("witness", 11), ("witness", 11)]),
            (5, [("witness", 8), ("witness", 9), ("witness", 10), ("witness", 11), ("learner", 3), ("voter", 3)]),
            (1, [("learner", 3), ("voter", 10 ** 29)]),
            (1, [("learner", 3), ("leave", -1)]),
        ]
        for at, edits in cases:
            for handed in (edits, tuple(edits), as_lists(edits)):
                first, before = as_lists(FIRST), as_lists(handed)
                error = refusal_of(way_of, first, handed)
                self.assertIs(type(error), NoChange, edits)
                self.assertEqual(error.at, at, edits)
                self.assertIs(type(error.at), int)
                self.assertEqual((first, as_lists(handed)), (as_lists(FIRST), before))

    def test_it_is_the_ways_one_behind_the_other(self):
        chance = chance_of(7)
        for _ in range(60):
            standing, edits, expected = some_standing(chance), [], []
            first = standing
            for _ in range(chance.randint(0, 12)):
                edit = chance.choice(WORDS), chance.randint(0, 11)
                after = slow_changed(standing, edit)
                if after is not None:
                    edits.append(edit)
                    joint = [(standing, after)] if standing[:2] != after[:2] else []
                    expected = expected + joint + [(after,)]
                    standing = after
            self.assertEqual(way_of(first, edits), expected)
            self.assertIsNone(first_miss([(first,)] + way_of(first, edits)))


ONE = (((0, 1, 2), (), ()),)
FAR = (((3, 4, 5), (), ()),)
JOINT = ONE + FAR


class TestFirstMiss(unittest.TestCase):
    def tell(self, row, expected):
        kinds = (list(row), tuple(row), as_lists(row), [first_as_list(sets) for sets in row])
        for handed in kinds:
            before = as_lists(handed)
            told = first_miss(handed)
            self.assertEqual(told, expected)
            self.assertEqual(form_of(told), form_of(expected))
            self.assertEqual(as_lists(handed), before)

    def test_fewer_than_two(self):
        self.tell([], None)
        self.tell([ONE], None)
        self.tell([JOINT], None)

    def test_all_neighbours_meet(self):
        self.tell([ONE, ONE], None)
        self.tell([ONE, JOINT, FAR], None)
        self.tell([ONE, JOINT, FAR, JOINT, ONE, ONE], None)
        self.tell([ONE] * 300, None)

    def test_the_first_place_and_its_paper(self):
        self.tell([ONE, FAR], (0, ([0, 1], [3, 4])))
        self.tell([FAR, ONE], (0, ([3, 4], [0, 1])))
        self.tell([ONE, FAR, ONE], (0, ([0, 1], [3, 4])))
        self.tell([ONE, JOINT, FAR, ONE, FAR], (2, ([3, 4], [0, 1])))
        self.tell([ONE] * 298 + [ONE, FAR], (298, ([0, 1], [3, 4])))

    def test_sets_that_are_no_neighbours_may_miss(self):
        steps = [(0, 1, 2), (0, 1, 2, 3), (1, 2, 3), (1, 2, 3, 4), (2, 3, 4), (2, 3, 4, 5), (3, 4, 5)]
        row = [((voters, (), ()),) for voters in steps]
        self.tell(row, None)
        self.tell([row[0], row[-1]], (0, ([0, 1], [3, 4])))

    def test_joint_sets_that_miss(self):
        joint = (((0, 1, 2), (), ()), ((1, 2, 3), (), ()))
        other = (((3, 4, 5), (), ()), ((0, 4, 5), (), ()))
        self.tell([joint, joint, other], (1, ([0, 1, 3], [4, 5])))
        self.tell([joint, other, joint], (0, ([0, 1, 3], [4, 5])))

    def test_against_the_words(self):
        chance = chance_of(8)
        for _ in range(40):
            row = some_sets(chance, 4)
            row = [row[0], row[0] + row[2], row[1], *row]
            papers = [(place, slow_missed(row[place], row[place + 1])) for place in range(len(row) - 1)]
            misses = [(place, paper) for place, paper in papers if paper is not None]
            told = first_miss(row)
            self.assertEqual(told, misses[0] if misses else None, row)
            if told is not None:
                self.assertIs(missed_shows(row[told[0]], row[told[0] + 1], told[1]), True)

    def test_a_told_paper_is_the_askers_own(self):
        row = [as_lists(ONE), as_lists(FAR)]
        _, (first, second) = first_miss(row)
        first.clear()
        second.append(7)
        self.assertEqual(row, [as_lists(ONE), as_lists(FAR)])
        self.assertEqual(first_miss(row), (0, ([0, 1], [3, 4])))


class TestNeighboursMeet(unittest.TestCase):
    """Point 4, as far as it rests on these: the sets of ways of single edits meet their neighbours."""

    def test_every_single_edit(self):
        chance = chance_of(9)
        for _ in range(60):
            standing = some_standing(chance)
            for word in WORDS:
                for house in range(12):
                    if slow_changed(standing, (word, house)) is not None:
                        row = [(standing,)] + way_of(standing, [(word, house)])
                        self.assertIsNone(first_miss(row), (standing, word, house))
                        for one, other in zip(row, row[1:]):
                            self.assertIsNone(missed(one, other))
                            self.assertIsNone(missed(other, one))

    def test_any_way_even_of_many_edits_at_once(self):
        chance = chance_of(10)
        for _ in range(60):
            old, new = some_standing(chance), some_standing(chance)
            self.assertIsNone(first_miss([(old,)] + way(old, new)))


if __name__ == "__main__":
    unittest.main()
