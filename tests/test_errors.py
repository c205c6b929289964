"""[3] and the interface: the errors."""

from unittest import TestCase

from alongall import errors

PLAIN = (
    "BadAlgebra BadDepth BadElement BadFills BadFormula BadFull BadGiven BadKind BadKinds BadLetters BadLoose BadLot "
    "BadMerging BadName BadNames BadNumber BadPairs BadPath BadPlaced BadReader BadRoad BadRounds BadScope "
    "BadSentence BadShort BadSpot BadStarts BadSurroundings BadTable BadValue BadWeave NotFinite OtherScope"
).split()
TELLING = {"BadText": "at", "NoName": "name", "TooMany": "most"}


class Errors(TestCase):
    def test_order_error_stands_below_value_error(self):
        self.assertEqual(errors.OrderError.__bases__, (ValueError,))

    def test_each_error_stands_directly_below_order_error(self):
        for name in PLAIN + list(TELLING):
            self.assertEqual(getattr(errors, name).__bases__, (errors.OrderError,), name)
            self.assertEqual(getattr(errors, name).__module__, "alongall.errors")

    def test_there_are_no_others(self):
        found = [name for name, thing in vars(errors).items() if isinstance(thing, type)]
        self.assertEqual(sorted(found), sorted(PLAIN + list(TELLING) + ["OrderError"]))

    def test_plain_ones_take_a_text(self):
        for name in PLAIN:
            self.assertEqual(str(getattr(errors, name)("why")), "why")

    def test_attributes(self):
        for name, attribute in TELLING.items():
            for told in (0, 400, "x"):
                error = getattr(errors, name)(told)
                self.assertEqual(getattr(error, attribute), told)
                self.assertEqual(getattr(getattr(errors, name)(**{attribute: told}), attribute), told)
                self.assertIsInstance(str(error), str)
