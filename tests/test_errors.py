import unittest

from wattkeep import errors

WITH_MESSAGE = (
    "BadNumber", "BadTable", "BadGrid", "BadName", "BadInjections", "BadProgram", "BadPlan", "BadHours", "BadStores",
    "BadMeters", "BadStarts", "BadOffers", "Bridge", "NothingDone",
)


class Errors(unittest.TestCase):
    def test_all_stand_under_watt_error(self):
        self.assertEqual(errors.WattError.__bases__, (ValueError,))
        for name in WITH_MESSAGE:
            error = getattr(errors, name)("why")
            self.assertIsInstance(error, errors.WattError, name)
            self.assertEqual(str(error), "why")
        self.assertTrue(issubclass(errors.BadLine, errors.WattError))

    def test_none_stands_under_another_one(self):
        kinds = [getattr(errors, name) for name in (*WITH_MESSAGE, "BadLine")]
        for kind in kinds:
            for other in kinds:
                self.assertEqual(issubclass(kind, other), kind is other)

    def test_bad_line_has_its_fields(self):
        for error in (errors.BadLine(3, 5), errors.BadLine(line=3, word=5)):
            self.assertEqual((error.line, error.word), (3, 5))
            self.assertIsInstance(str(error), str)


if __name__ == "__main__":
    unittest.main()
