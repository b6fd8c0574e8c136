"""Drawn histories: the promise of the whole behind each deed, and what comes of them in calm (points 4, 20, 25)."""

import unittest
from unittest import mock

from histories import Broken, History, Judge, claim, run_history


class TestHistories(unittest.TestCase):
    def test_drawn_histories_then_calm(self):
        settled = leads = reads = sets = 0
        for seed in range(60):
            with self.subTest(seed=seed):
                judge = run_history(seed, 200 + 40 * (seed % 40)).judge
                settled += len(judge.settled)
                leads += len(judge.leaders)
                reads += sum(answer is not None for asked in judge.reads.values() for _, answer in asked)
                sets += sum(entry[1][0] == "sets" for entry in judge.settled)
        # Histories in which nothing happens would show nothing.
        self.assertGreater(min(settled / 20, leads / 3, reads / 5, sets / 5), 60)

    def test_restless_histories(self):
        """Houses that wait less for the one that leads seek the lead oftener."""
        for trust, wait in [(8, 9), (0, 1), (1, 3)]:
            with mock.patch.multiple("jointseat.house", TRUST=trust, LEAST_WAIT=wait):
                for seed in range(130):
                    with self.subTest(seed=seed, trust=trust):
                        History(20000 + seed).run(2000)

    def test_houses_stop_all_the_time(self):
        for seed in range(25):
            history = History(5000 + seed)
            history.sleepy = 0.1
            history.most_asleep = 3
            history.run(800)
            history.ask_in_calm(history.calm_down())

    def test_letters_are_told_twice_and_long_after(self):
        for seed in range(25):
            history = History(6000 + seed)
            history.wild = 0.7
            history.run(800)
            history.ask_in_calm(history.calm_down())

    def test_leaders_remove_themselves(self):
        for seed in range(25):
            history = History(7000 + seed, ((0, 1, 2), (8,), (3,)))
            for _ in range(6):
                history.run(60)
                for leader in history.leaders():
                    if ("leave", leader) not in history.net.waiting(leader):
                        history.try_change(leader, ("leave", leader))
            leader = history.calm_down()
            history.ask_in_calm(leader)


class TestJudge(unittest.TestCase):
    """The reckoning of the tests themselves: a judge that sees nothing would let all pass."""

    def test_a_claim(self):
        claim(True, "so")
        with self.assertRaises(Broken):
            claim(False, "so")

    def test_broken_promises_are_seen(self):
        one, other = ("number", 1), ("number", 2)
        three = ((0, 1, 2), (), ())
        led = (0, True, True, 1, [(1, one)], 0)
        broken = [
            [led, (1, True, True, 1, [], 0)],
            [led, (1, True, False, 1, [(1, other)], 0)],
            [(0, True, False, 1, [(1, one)], 1), (1, True, False, 2, [(2, other)], 1)],
            [(0, True, True, 1, [(1, one)], 1)],
            [(3, True, True, 1, [(1, ("none",))], 0)],
            [(0, True, False, 1, [(1, ("sets", (((0, 1, 2, 3), (), ()),)))], 0)],
            [(0, False, True, 1, [], 0)],
            [(9, True, False, 1, [(1, one)], 0)],
        ]
        for shown in broken:
            with self.assertRaises(Broken, msg=shown):
                Judge(FakeNet(three), three).see_shown(shown)


class FakeNet:
    """Tells the sights that it is given."""

    def __init__(self, first):
        self.first = first
        self.shown = {house: (house, True, False, 0, [], 0) for house in range(12)}

    def sight(self, house):
        return self.shown[house]

    def sets(self, house):
        found = [what[1] for _, what in self.shown[house][4] if what[0] == "sets"]
        return found[-1] if found else (self.first,)

    def waiting(self, house):
        return []

    def reads(self, house):
        return []


if __name__ == "__main__":
    unittest.main()
