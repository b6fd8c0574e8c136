"""The interface: each name stands in its own file, and takes its arguments as told (points 2 and 3)."""

import inspect
import unittest

from jointseat import changes, desk, errors, house, logs, net, plans, standings, watch

FUNCTIONS = [
    (standings, "standing_of", "(voters, *, witnesses=(), learners=())"),
    (standings, "who_votes", "(sets)"),
    (standings, "seat_of", "(sets, house)"),
    (standings, "is_quorum", "(sets, group)"),
    (standings, "least_quorums", "(sets)"),
    (standings, "missed", "(one, other)"),
    (standings, "missed_shows", "(one, other, paper)"),
    (changes, "changed", "(standing, edit)"),
    (changes, "way", "(old, new)"),
    (changes, "way_of", "(standing, edits)"),
    (changes, "first_miss", "(row)"),
    (logs, "kept_log", "(log)"),
    (logs, "alike_up_to", "(one, other)"),
    (logs, "as_new", "(one, other)"),
    (logs, "agree", "(one, other)"),
    (logs, "sets_by", "(log, first)"),
    (logs, "settled_by", "(log, first, *, term, places)"),
    (plans, "bears", "(sets, asleep)"),
    (plans, "all_bear", "(row, asleep)"),
    (plans, "weak_groups", "(sets)"),
    (plans, "fewest_edits", "(old, new, *, asleep=())"),
]
METHODS = [
    (house, "House", {
        "__init__": "(self, number, first)", "beat": "(self)", "take": "(self, letter)", "awake": "(self)",
        "leads": "(self)", "term": "(self)", "settled": "(self)", "log": "(self)", "waiting": "(self)",
        "sets": "(self)", "ask": "(self, value)", "change": "(self, edit)", "stop": "(self)", "wake": "(self)",
        "read": "(self)", "reads": "(self)", "hand": "(self, house)"}),
    (net, "Net", {
        "__init__": "(self, first)", "beat": "(self, house)", "deliver": "(self, number, *, keep=False)",
        "lose": "(self, number)", "stop": "(self, house)", "wake": "(self, house)", "ask": "(self, house, value)",
        "change": "(self, house, edit)", "letters": "(self)", "sight": "(self, house)", "sets": "(self, house)",
        "waiting": "(self, house)", "calm": "(self, rounds=1)", "read": "(self, house)", "reads": "(self, house)",
        "hand": "(self, house, to)", "on_trial": "(self, deed)", "twin": "(self)", "__len__": "(self)"}),
    (watch, "Watch", {
        "__init__": "(self, first)", "show": "(self, sights)", "settled": "(self)", "twin": "(self)",
        "__eq__": "(self, other)"}),
    (desk, "Desk", {"__init__": "(self)", "say": "(self, row)"}),
]


class TestInterface(unittest.TestCase):
    def test_each_function_stands_in_its_file_with_its_arguments(self):
        for module, name, arguments in FUNCTIONS:
            function = getattr(module, name)
            self.assertTrue(inspect.isfunction(function), name)
            self.assertEqual(function.__module__, module.__name__)
            self.assertEqual(str(inspect.signature(function)), arguments, name)

    def test_each_method_stands_in_its_class_with_its_arguments(self):
        for module, name, methods in METHODS:
            kind = getattr(module, name)
            self.assertEqual(kind.__module__, module.__name__)
            for method, arguments in methods.items():
                self.assertIn(method, vars(kind), (name, method))
                self.assertEqual(str(inspect.signature(vars(kind)[method])), arguments, (name, method))

    def test_each_class_of_errors_stands_in_its_file(self):
        for name in ["SeatError", "NoStanding", "NoChange", "NoLead", "NoHouse", "NoLetter", "NoForm"]:
            self.assertTrue(inspect.isclass(getattr(errors, name)), name)
            self.assertEqual(getattr(errors, name).__module__, "jointseat.errors")
        self.assertEqual(str(inspect.signature(errors.NoChange)), "(at=None)")

    def test_numbers_that_stand_in_the_interface(self):
        self.assertEqual((standings.MOST_HOUSES, standings.MOST_VOTES), (12, 7))


if __name__ == "__main__":
    unittest.main()
