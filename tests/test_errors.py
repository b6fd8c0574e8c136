"""The classes of the refusals (point 3 and the interface)."""

import unittest

from jointseat import errors
from jointseat.errors import NoChange, NoForm, NoHouse, NoLead, NoLetter, NoStanding, SeatError

NAMED = [NoStanding, NoChange, NoLead, NoHouse, NoLetter, NoForm]


class TestErrors(unittest.TestCase):
    def test_each_stands_under_seat_error_and_value_error(self):
        self.assertTrue(issubclass(SeatError, ValueError))
        for named in NAMED:
            self.assertTrue(issubclass(named, SeatError), named)
            self.assertTrue(issubclass(named, ValueError), named)

    def test_none_stands_under_another(self):
        for one in NAMED:
            self.assertIsNot(one, SeatError)
            for other in NAMED:
                self.assertEqual(issubclass(one, other), one is other, (one, other))

    def test_each_is_defined_in_errors_under_its_name(self):
        for named in [SeatError, *NAMED]:
            self.assertEqual(named.__module__, "jointseat.errors")
            self.assertIs(getattr(errors, named.__name__), named)

    def test_each_can_be_raised_and_caught_as_any_refusal(self):
        for named in NAMED:
            with self.assertRaises(SeatError) as caught:
                raise named()
            self.assertIs(type(caught.exception), named)

    def test_no_change_keeps_its_place(self):
        self.assertIsNone(NoChange().at)
        self.assertIsNone(NoChange(None).at)
        self.assertEqual(NoChange(3).at, 3)
        self.assertEqual(NoChange(at=4).at, 4)
        self.assertEqual(NoChange(0).at, 0)

    def test_each_no_change_has_a_place_of_its_own(self):
        one, other = NoChange(1), NoChange(2)
        self.assertEqual((one.at, other.at, NoChange().at), (1, 2, None))


if __name__ == "__main__":
    unittest.main()
