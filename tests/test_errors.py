"""The error classes of the interface."""

import unittest

from imagetalk import errors

PLAIN = ("BadTree BadName NoName Clash BadClass BadSelector NoMethod BadFields BadParent BadCount BadMade BadPlaces "
         "NotSound BadWorld NoObject Busy Late BadNumber NotThat NothingToUndo TooMany BadCommand").split()
FIELDS = {"BadSource": ("place",), "BadProgram": ("where",), "BadText": ("row",), "BadCodes": ("body", "place"),
          "BadLog": ("place",), "BadSchedule": ("place",)}


class ErrorsTest(unittest.TestCase):
    def test_the_classes_are_those_of_the_interface(self):
        found = {name for name, thing in vars(errors).items() if isinstance(thing, type)}
        self.assertEqual(found, {"TalkError", *PLAIN, *FIELDS})

    def test_each_stands_directly_under_talk_error(self):
        self.assertEqual(errors.TalkError.__bases__, (ValueError,))
        for name in [*PLAIN, *FIELDS]:
            with self.subTest(name):
                self.assertEqual(getattr(errors, name).__bases__, (errors.TalkError,))
                self.assertEqual(getattr(errors, name).__module__, "imagetalk.errors")

    def test_an_error_is_of_no_other_class(self):
        for name in PLAIN:
            error = getattr(errors, name)("some text")
            self.assertIsInstance(error, ValueError)
            others = [other for other in [*PLAIN, *FIELDS] if other != name]
            for other in others:
                self.assertNotIsInstance(error, getattr(errors, other))

    def test_a_plain_one_is_raised_with_one_text(self):
        for name in PLAIN:
            with self.subTest(name), self.assertRaises(errors.TalkError):
                raise getattr(errors, name)("some text")

    def test_fields_by_position(self):
        for name, fields in FIELDS.items():
            given = [(7, 0, 2), "two"][:len(fields)]
            error = getattr(errors, name)(*given)
            self.assertIsInstance(error, errors.TalkError)
            self.assertEqual([getattr(error, field) for field in fields], given)

    def test_fields_by_name(self):
        for name, fields in FIELDS.items():
            given = dict(zip(fields, [(3, 1), 9]))
            error = getattr(errors, name)(**given)
            self.assertEqual({field: getattr(error, field) for field in fields}, given)
            self.assertIsInstance(str(error), str)


if __name__ == "__main__":
    unittest.main()
