"""The exceptions of the interface."""

import unittest

from endlesskinds import errors

WITH_MESSAGE = [
    "NoType", "NoValues", "NoText", "NoClass", "NoTable", "NoName", "NoMost", "NoRoots", "NoRoot", "NoDeed",
    "TooMany", "Crowded", "NothingDone",
]

CYCLE = (("deep", "X"), ("box", "X"))

WITH_FIELDS = [
    ("Unfit", {"name": "box"}),
    ("Looped", {"name": "odd"}),
    ("Turned", {"name": "box", "letter": "X"}),
    ("Endless", {"cycle": CYCLE}),
    ("Clash", {"name": "pair", "member": "first"}),
]


class ErrorTest(unittest.TestCase):
    def test_the_base_of_all_is_a_value_error(self):
        self.assertEqual(errors.KindError.__bases__, (ValueError,))
        self.assertEqual(errors.KindError.__module__, "endlesskinds.errors")

    def test_each_is_derived_directly_from_it(self):
        for name in WITH_MESSAGE + [name for name, _ in WITH_FIELDS]:
            with self.subTest(name):
                error = getattr(errors, name)
                self.assertEqual(error.__bases__, (errors.KindError,))
                self.assertEqual(error.__name__, name)
                self.assertEqual(error.__module__, "endlesskinds.errors")

    def test_made_with_a_message_or_none(self):
        for name in ["KindError"] + WITH_MESSAGE:
            error = getattr(errors, name)
            with self.subTest(name):
                self.assertIsInstance(error(), errors.KindError)
                self.assertIsInstance(error("a message"), ValueError)
                with self.assertRaises(error):
                    raise error("a message")
                with self.assertRaises(error):
                    raise error

    def test_fields_by_position_and_by_name(self):
        for name, fields in WITH_FIELDS:
            error = getattr(errors, name)
            with self.subTest(name):
                self.check_fields(error(*fields.values()), fields)
                self.check_fields(error(**fields), fields)
                with self.assertRaises(errors.KindError) as caught:
                    raise error(**fields)
                self.check_fields(caught.exception, fields)

    def check_fields(self, error, fields):
        for field, value in fields.items():
            self.assertEqual(getattr(error, field), value)

    def test_fields_by_name_in_the_other_order(self):
        error = errors.Turned(letter="Y", name="pair")
        self.assertEqual((error.name, error.letter), ("pair", "Y"))
        error = errors.Clash(member="second", name="pair")
        self.assertEqual((error.name, error.member), ("pair", "second"))


if __name__ == "__main__":
    unittest.main()
