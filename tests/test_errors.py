"""[4]: the errors."""

import unittest

from pushtells import errors
from pushtells.errors import InvalidCommand, InvalidSize, PushError, Refused
from pushtells.webs import Web

AT = ("InvalidWeb InvalidBox InvalidTies InvalidBounds InvalidTotals InvalidPoint InvalidTie InvalidLot InvalidRow "
      "InvalidRows InvalidSigns InvalidWeights InvalidPrices InvalidRead InvalidSide InvalidBlock InvalidPaper "
      "InvalidValue InvalidIndex InvalidKind InvalidWord InvalidHoles InvalidText InvalidDeed InvalidSheet "
      "InvalidMark Refused").split()


class ErrorsTest(unittest.TestCase):
    def test_each_is_directly_below_the_base(self):
        self.assertEqual(PushError.__bases__, (Exception,))
        for name in AT + ["InvalidSize", "InvalidCommand"]:
            self.assertEqual(getattr(errors, name).__bases__, (PushError,), name)
            self.assertEqual(getattr(errors, name).__module__, "pushtells.errors")

    def test_arguments_are_kept_themselves(self):
        for thing in (3, -1, None, "points", [1, [2]], {"a": 1}, Web(1, []), object()):
            for name in AT:
                self.assertIs(getattr(errors, name)(thing).at, thing)
                self.assertIs(getattr(errors, name)(at=thing).at, thing)
            self.assertIs(InvalidSize(thing).word, thing)
            self.assertIs(InvalidSize(word=thing).word, thing)

    def test_numbers_of_arguments(self):
        self.assertEqual(vars(InvalidCommand()), {})
        self.assertRaises(TypeError, InvalidCommand, 1)
        for name in AT + ["InvalidSize"]:
            self.assertRaises(TypeError, getattr(errors, name))
            self.assertRaises(TypeError, getattr(errors, name), 1, 2)

    def test_later_changes_are_seen_in_errors_alone(self):
        told = [1]
        kept = Refused(told)
        told.append(2)
        self.assertEqual(kept.at, [1, 2])


if __name__ == "__main__":
    unittest.main()
