"""The refusals of spoorfold.errors: their classes, their words, their fields."""

import unittest

from spoorfold import errors

# Each refusal: its class, the class straight above it, what it is made of here, by the names of its fields.
REFUSALS = [
    ("BadWord", "SpoorError", {}),
    ("BadName", "SpoorError", {}),
    ("BadWorld", "SpoorError", {}),
    ("BadStep", "SpoorError", {"at": 4}),
    ("BadPaper", "SpoorError", {"at": 7}),
    ("BadRounds", "SpoorError", {}),
    ("BadPage", "SpoorError", {"row": 3}),
    ("TooLong", "SpoorError", {}),
    ("Taken", "SpoorError", {"name": "ab"}),
    ("Full", "SpoorError", {}),
    ("Heavy", "SpoorError", {"many": 1000}),
    ("Unproved", "SpoorError", {"how": "open"}),
    ("Stopped", "SpoorError", {"at": 2, "kind": "noname"}),
    ("Wide", "SpoorError", {}),
    ("NoPlace", "Lacking", {"place": 12}),
    ("NoName", "Lacking", {"name": "cd"}),
    ("NoLine", "Lacking", {"number": 9}),
    ("NothingLeft", "Lacking", {}),
]


class RefusalsTest(unittest.TestCase):

    def test_there_are_eighteen(self):
        self.assertEqual(len({name for name, _, _ in REFUSALS}), 18)

    def test_the_class_straight_above(self):
        for name, above, _ in REFUSALS:
            with self.subTest(name):
                self.assertEqual(getattr(errors, name).__bases__, (getattr(errors, above),))

    def test_the_two_classes_at_the_top(self):
        self.assertEqual(errors.SpoorError.__bases__, (ValueError,))
        self.assertEqual(errors.Lacking.__bases__, (LookupError,))
        self.assertFalse(issubclass(errors.Lacking, errors.SpoorError))
        self.assertFalse(issubclass(errors.Lacking, ValueError))
        self.assertFalse(issubclass(errors.SpoorError, LookupError))

    def test_word_is_the_class_name_in_small_letters(self):
        for name, _, fields in REFUSALS:
            with self.subTest(name):
                self.assertEqual(getattr(errors, name)(*fields.values()).word, name.lower())

    def test_the_classes_at_the_top_have_a_word_too(self):
        self.assertEqual(errors.SpoorError().word, "spoorerror")
        self.assertEqual(errors.Lacking().word, "lacking")

    def test_fields_are_set_when_the_refusal_is_made(self):
        for name, _, fields in REFUSALS:
            refusal = getattr(errors, name)(*fields.values())
            for field, worth in fields.items():
                with self.subTest(f"{name}.{field}"):
                    self.assertEqual(getattr(refusal, field), worth)

    def test_each_is_caught_by_the_error_of_python_above_it(self):
        for name, above, fields in REFUSALS:
            with self.subTest(name):
                with self.assertRaises(ValueError if above == "SpoorError" else LookupError):
                    raise getattr(errors, name)(*fields.values())

    def test_each_has_a_message(self):
        for name, _, fields in REFUSALS:
            with self.subTest(name):
                self.assertNotEqual(str(getattr(errors, name)(*fields.values())), "")


if __name__ == "__main__":
    unittest.main()
