"""0.3: the error classes and their fields."""

import unittest

from neverleapt import errors
from neverleapt.errors import LeapError
from tests.samples import odd_things

FIELDS = {
    "BadMachine": "part", "NoRun": None, "NoNumber": None, "NoEvents": None, "NoEvent": None,
    "NoPart": None, "TooMany": "most", "NoPhrase": None, "BadText": "line", "NoShare": None,
    "NoStanding": None, "NoKnot": None, "BadLot": "part", "NoNumbers": None, "NoWay": None,
    "NotBalanced": None, "NoStretch": None, "NoBoard": None, "NoFlag": None, "NoPlaces": None,
    "NoHow": None, "NoMark": None, "TooLong": "most", "NoWeights": None, "NoLog": None,
    "NotHere": None, "NothingDone": None, "NoTable": None, "NoLine": None, "NoName": "name",
}


class Errors(unittest.TestCase):

    def test_base(self):
        self.assertEqual(LeapError.__bases__, (ValueError,))

    def test_each_derives_directly(self):
        for name in FIELDS:
            with self.subTest(name):
                self.assertEqual(getattr(errors, name).__bases__, (LeapError,))

    def test_those_without_fields(self):
        for name, field in FIELDS.items():
            if field is None:
                with self.subTest(name):
                    self.assertIsInstance(getattr(errors, name)(), LeapError)

    def test_fields_keep_what_is_passed(self):
        things = odd_things() + [0, -1, 10 ** 40, "name", (), ("a", [1])]
        for name, field in FIELDS.items():
            if field is not None:
                for thing in things:
                    with self.subTest(name, thing=str(thing)[:40]):
                        self.assertIs(getattr(getattr(errors, name)(thing), field), thing)

    def test_can_be_raised_and_caught(self):
        for name, field in FIELDS.items():
            made = getattr(errors, name)
            with self.subTest(name):
                with self.assertRaises(ValueError) as caught:
                    raise made() if field is None else made(3)
                self.assertIs(type(caught.exception), made)


if __name__ == "__main__":
    unittest.main()
