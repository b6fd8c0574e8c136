"""A watch held against the slow one, over long histories, and over those of real nets (points 4 and 21)."""

import unittest
from collections import Counter

from jointseat.net import Net
from jointseat.watch import Watch

from histories import HOUSES, History
from slow_watch import DrawnSights, SlowWatch
from support import as_lists, as_tuples, chance_of, form_of

BIG = 10 ** 29


class TestDrawn(unittest.TestCase):
    def test_drawn_sights(self):
        told = Counter()
        for seed in range(90):
            chance = chance_of(seed)
            drawn = DrawnSights(chance, chance.choice([0, 0.02, 0.1, 0.3, 0.6]))
            watch, slow = Watch(drawn.first), SlowWatch(drawn.first)
            for moment in range(chance.choice([5, 20, 20, 60])):
                sights = drawn.list()
                breach = watch.show([list, as_lists, as_tuples][moment % 3](sights))
                self.assertEqual(breach, slow.show(sights), (seed, moment))
                self.assertEqual(watch.settled(), slow.settled(), (seed, moment))
                self.assertEqual(form_of(watch.settled()), form_of(slow.settled()))
                told[breach and breach[0]] += 1
        # Where a breach is never told, nothing of it is shown by this.
        for word in (None, "two lead", "parted", "turned", "fallen", "no quorum", "no seat", "missed"):
            self.assertGreater(told[word], 8, told)

    def test_three_hundred_lists_of_good_histories(self):
        first = ((0, 1, 2), (8,), (3,))
        other = ((0, 1, 2, 3), (8,), ())
        log = []
        watch = Watch(first)
        slow = SlowWatch(first)
        for moment in range(300):
            term = BIG + moment // 60
            what = [("none",), ("number", moment), ("sets", (first, other)), ("sets", (other,)), ("number", -BIG),
                    ("sets", (other, first)), ("sets", (first,))][moment % 7]
            log.append((term, what))
            kept = [(term, ("kept",)) if what[0] == "number" else (term, what) for term, what in log]
            sights = [(house, True, house == moment // 60 % 3, term, kept if house > 7 else list(log), len(log))
                      for house in HOUSES]
            self.assertIsNone(watch.show(sights if moment % 2 else as_lists(sights)))
            if moment < 12:
                self.assertIsNone(slow.show(sights))
        self.assertEqual(watch.settled(), log)


class TestRealNets(unittest.TestCase):
    def test_drawn_histories_of_nets(self):
        numbers = sets = 0
        for seed in range(24):
            history = History(40000 + seed)
            history.judge.watch = Watch(history.first)
            history.run(350)
            history.ask_in_calm(history.calm_down())
            settled = history.judge.watch.settled()
            self.assertEqual(settled, history.judge.settled)
            numbers += sum(entry[1][0] == "number" for entry in settled)
            sets += sum(entry[1][0] == "sets" for entry in settled)
        self.assertGreater(min(numbers, sets), 40)

    def test_leaders_that_remove_themselves(self):
        for seed in range(6):
            history = History(41000 + seed, ((0, 1, 2), (8,), (3,)))
            history.judge.watch = Watch(history.first)
            for _ in range(4):
                history.run(50)
                for leader in history.leaders():
                    history.try_change(leader, ("leave", leader))
            history.calm_down()

    def test_calm_rounds_one_list_each(self):
        net = Net(((0, 1, 2), (8, 9), (3,)))
        watch, slow = Watch(((0, 1, 2), (8, 9), (3,))), SlowWatch(((0, 1, 2), (8, 9), (3,)))
        edits = [("voter", 3), ("learner", 4), ("leave", 8), ("witness", 10), ("leave", 1), ("voter", 4)]
        for moment in range(60):
            net.calm(3)
            leaders = [house for house in HOUSES if net.sight(house)[2]]
            if leaders and moment % 3 == 0:
                net.ask(leaders[0], moment)
            if leaders and edits and moment % 5 == 0:
                net.change(leaders[0], edits.pop(0))
            sights = [net.sight(house) for house in HOUSES]
            self.assertIsNone(watch.show(sights))
            self.assertIsNone(slow.show(sights))
        self.assertEqual(edits, [])
        self.assertEqual(watch.settled(), slow.settled())
        self.assertEqual(watch.settled(), net.sight(0)[4])


if __name__ == "__main__":
    unittest.main()
