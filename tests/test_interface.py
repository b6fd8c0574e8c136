"""The interface: each name stands in its own file, and takes its arguments as told (points 2 and 3)."""

import inspect
import unittest

from jointseat import changes, errors, standings

FUNCTIONS = [
    (standings, "standing_of", "(voters, *, witnesses=(), learners=())"),
    (standings, "who_votes", "(sets)"),
    (standings, "seat_of", "(sets, house)"),
    (standings, "is_quorum", "(sets, group)"),
    (standings, "least_quorums", "(sets)"),
    (standings, "missed", "(one, other)"),
    (standings, "missed_shows", "(one, other, paper)"),
    (changes, "changed", "(standing, edit)"),
    (changes, "way", "(old, new)"),
    (changes, "way_of", "(standing, edits)"),
    (changes, "first_miss", "(row)"),
]


class TestInterface(unittest.TestCase):
    def test_each_function_stands_in_its_file_with_its_arguments(self):
        for module, name, arguments in FUNCTIONS:
            function = getattr(module, name)
            self.assertTrue(inspect.isfunction(function), name)
            self.assertEqual(function.__module__, module.__name__)
            self.assertEqual(str(inspect.signature(function)), arguments, name)

    def test_each_class_of_errors_stands_in_its_file(self):
        for name in ["SeatError", "NoStanding", "NoChange", "NoLead", "NoHouse", "NoLetter", "NoForm"]:
            self.assertTrue(inspect.isclass(getattr(errors, name)), name)
            self.assertEqual(getattr(errors, name).__module__, "jointseat.errors")
        self.assertEqual(str(inspect.signature(errors.NoChange)), "(at=None)")


if __name__ == "__main__":
    unittest.main()
