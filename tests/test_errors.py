import inspect
import unittest

from sureprices import errors

NAMES = (
    "InvalidShop", "InvalidBasket", "InvalidActs", "InvalidAct", "InvalidOffers", "InvalidKinds",
    "InvalidNumber", "Different", "NoFault", "NotThere", "NothingToUndo", "ParseError")


class Classes(unittest.TestCase):
    def test_base(self):
        self.assertEqual(errors.PriceError.__bases__, (ValueError,))

    def test_each_is_a_direct_subclass_and_of_no_other_one(self):
        for name in NAMES:
            with self.subTest(name):
                self.assertEqual(getattr(errors, name).__bases__, (errors.PriceError,))
                self.assertEqual(getattr(errors, name).__name__, name)

    def test_there_are_no_others(self):
        self.assertEqual(len(set(NAMES)), 12)
        found = [name for name, value in vars(errors).items() if inspect.isclass(value)]
        self.assertEqual(sorted(found), sorted(NAMES + ("PriceError",)))

    def test_they_are_raised_with_a_message(self):
        for name in NAMES:
            with self.subTest(name), self.assertRaises(errors.PriceError) as caught:
                raise getattr(errors, name)("why")
            self.assertEqual(str(caught.exception), "why")
