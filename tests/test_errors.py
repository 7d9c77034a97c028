"""The errors: each one a direct subclass of LoopshedsError, with its attributes."""

import unittest

from loopsheds import errors, faults

ERRORS = {"BadName": "name", "BadDifference": "place", "NoSolution": "", "Unlike": "what", "Unbounded": "name",
          "BadFormula": "why", "BadTimes": "place", "Descending": "path", "NoLoop": "path", "BadNumber": "value",
          "BadShifts": ""}
FAULTS = {"BadNest": "", "NoNode": "path", "NoPlace": "", "BadSizes": "", "TooMany": "most", "Doubled": "label",
          "BadMove": "", "NoMove": "kind", "TooLarge": "", "BadKind": "", "NoNest": "name", "Changed": "sizes",
          "NothingDone": ""}


class ErrorsTest(unittest.TestCase):
    def check(self, module, wanted):
        for name, attribute in wanted.items():
            kind = getattr(module, name)
            self.assertEqual(kind.__bases__, (errors.LoopshedsError,))
            self.assertEqual(kind.__module__, module.__name__)
            error = kind(3) if attribute else kind("why")
            if attribute:
                self.assertEqual(getattr(error, attribute), 3)

    def test_errors(self):
        self.assertEqual(errors.LoopshedsError.__bases__, (ValueError,))
        self.check(errors, ERRORS)
        error = errors.BadText(4, 7)
        self.assertEqual((error.line, error.column), (4, 7))

    def test_faults(self):
        self.check(faults, FAULTS)


if __name__ == "__main__":
    unittest.main()
