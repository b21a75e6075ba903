import copy
import pickle
import unittest

from roadbook import errors

NAMES = [
    "BadClock", "BadRule", "TooMany", "BadName", "Twice", "NoStop", "NoRule", "NoTicket", "NoTrip", "BadNumber",
    "BadCalls", "BadRow", "NoRun", "NoPlan", "TooLate", "NoTraveller", "BadLine",
]


class ErrorTests(unittest.TestCase):
    def test_road_error_is_a_value_error(self):
        self.assertEqual(errors.RoadError.__bases__, (ValueError,))

    def test_each_class_stands_straight_under_it(self):
        for name in NAMES:
            with self.subTest(name):
                self.assertEqual(getattr(errors, name).__bases__, (errors.RoadError,))

    def test_they_are_classes_of_their_own(self):
        found = [getattr(errors, name) for name in NAMES]
        self.assertEqual(len(set(found)), 17)
        for one in found:
            for other in found:
                self.assertEqual(issubclass(one, other), one is other)

    def test_there_is_no_other_class(self):
        self.assertEqual(sorted(name for name in vars(errors) if name[0].isupper()), sorted(NAMES + ["RoadError"]))

    def test_each_is_raised_and_taken_as_road_error(self):
        for name in NAMES:
            arguments = {"BadRow": (3, "name"), "NoPlan": (2,)}.get(name, ("words",))
            with self.subTest(name), self.assertRaises(errors.RoadError):
                raise getattr(errors, name)(*arguments)

    def test_fields_of_bad_row(self):
        for row, word in [(0, "text"), (1, "row"), (17, "twice")]:
            error = errors.BadRow(row, word)
            self.assertEqual((error.row, error.word), (row, word))

    def test_field_of_no_plan(self):
        for at in [None, 0, 3]:
            self.assertEqual(errors.NoPlan(at).at, at)

    def test_fields_stand_in_a_copy(self):
        for copied in [copy.copy, lambda error: pickle.loads(pickle.dumps(error))]:
            row = copied(errors.BadRow(4, "stop"))
            self.assertEqual((row.row, row.word), (4, "stop"))
            self.assertEqual(copied(errors.NoPlan(None)).at, None)

    def test_fields_by_their_names(self):
        self.assertEqual(errors.BadRow(word="many", row=2).row, 2)
        self.assertEqual(errors.NoPlan(at=1).at, 1)


if __name__ == "__main__":
    unittest.main()
