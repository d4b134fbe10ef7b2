"""The refusals: 0.2 and the interface's heading farlamps/errors.py."""

import unittest

from farlamps import errors
from tests.things import Hostile, not_whole

FIELDS = {
    "NoLamp": "what", "NoLight": "what", "NoBeat": "beat", "NoNumber": "number",
    "NoPaper": "at", "NoWindow": "what", "NoSize": "what", "TooMany": "many",
}


class Refusals(unittest.TestCase):
    def test_the_root_stands_under_value_error(self):
        self.assertEqual(errors.LampError.__bases__, (ValueError,))

    def test_each_stands_straight_under_the_root(self):
        for name in FIELDS:
            self.assertEqual(getattr(errors, name).__bases__, (errors.LampError,), name)

    def test_no_other_refusal_is_there(self):
        classes = [name for name, thing in vars(errors).items() if isinstance(thing, type)]
        self.assertEqual(sorted(classes), sorted(["LampError"] + list(FIELDS)))

    def test_each_is_made_with_its_field_by_place_and_by_name(self):
        for name, field in FIELDS.items():
            refusal = getattr(errors, name)
            self.assertEqual(vars(refusal(7)), {field: 7}, name)
            self.assertEqual(vars(refusal(**{field: 7})), {field: 7}, name)

    def test_each_takes_just_one_field(self):
        for name in FIELDS:
            with self.assertRaises(TypeError):
                getattr(errors, name)()
            with self.assertRaises(TypeError):
                getattr(errors, name)(1, 2)

    def test_a_field_may_be_a_thing_of_any_kind(self):
        for name, field in FIELDS.items():
            for thing in not_whole() + [(), (0, 1), 10 ** 5000]:
                with self.assertRaises(ValueError) as caught:
                    raise getattr(errors, name)(thing)
                self.assertIs(getattr(caught.exception, field), thing)

    def test_each_has_words_whatever_its_field(self):
        for name in FIELDS:
            for thing in (Hostile(), 10 ** 5000, None):
                self.assertNotEqual(str(getattr(errors, name)(thing)), "")

    def test_a_lamp_error_can_be_raised_by_itself(self):
        with self.assertRaises(ValueError):
            raise errors.LampError("words")


if __name__ == "__main__":
    unittest.main()
