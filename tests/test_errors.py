"""The errors of cliplore/errors.py: their base classes, arguments and attributes."""

import inspect
import unittest

from cliplore import errors

ARGUMENTS = {
    "BadAlphabet": ["part"],
    "BadWord": ["word"],
    "BadStage": ["what"],
    "BadRule": ["stage", "what"],
    "BadShape": ["place"],
    "BadTable": ["place"],
    "Mixed": [],
    "BadLot": ["number"],
    "BadLimit": ["limit"],
    "TooMany": ["number"],
    "OutsideStock": ["word"],
    "NoRule": ["fewest"],
    "NoEntry": ["number"],
    "NoClass": ["number"],
    "NoHistory": ["way"],
    "BadDeed": ["index"],
    "NoPlan": ["one", "two"],
}
VALUES = {"part": "vowels", "word": "a?b", "what": "after", "way": "undo", "stage": 2, "place": -1,
          "number": 201, "limit": -3, "fewest": 4, "index": 0, "one": 5, "two": 7}


def attribute_of(argument):
    return "asked" if argument == "limit" else argument


class ErrorsTest(unittest.TestCase):
    def each(self):
        for name, arguments in ARGUMENTS.items():
            with self.subTest(name):
                yield name, getattr(errors, name), arguments

    def test_base_class(self):
        self.assertEqual(errors.ClipError.__bases__, (ValueError,))

    def test_there_are_seventeen_and_no_others(self):
        found = [name for name, value in vars(errors).items() if inspect.isclass(value)]
        self.assertEqual(len(ARGUMENTS), 17)
        self.assertEqual(sorted(found), sorted(["ClipError", *ARGUMENTS]))

    def test_each_is_defined_in_its_file(self):
        for _, error, _ in self.each():
            self.assertEqual(error.__module__, "cliplore.errors")

    def test_each_is_a_direct_subclass(self):
        for _, error, _ in self.each():
            self.assertEqual(error.__bases__, (errors.ClipError,))

    def test_each_is_none_of_the_others(self):
        for name, error, arguments in self.each():
            raised = error(*[VALUES[argument] for argument in arguments])
            self.assertIsInstance(raised, errors.ClipError)
            self.assertIsInstance(raised, ValueError)
            for other in ARGUMENTS:
                if other != name:
                    self.assertNotIsInstance(raised, getattr(errors, other))

    def test_arguments_have_their_names_and_no_defaults(self):
        for _, error, arguments in self.each():
            found = list(inspect.signature(error).parameters.values())
            self.assertEqual([parameter.name for parameter in found], arguments)
            for parameter in found:
                self.assertIs(parameter.default, inspect.Parameter.empty)
                self.assertIs(parameter.kind, inspect.Parameter.POSITIONAL_OR_KEYWORD)

    def test_attributes_by_position(self):
        for _, error, arguments in self.each():
            raised = error(*[VALUES[argument] for argument in arguments])
            expected = {attribute_of(argument): VALUES[argument] for argument in arguments}
            self.assertEqual(vars(raised), expected)

    def test_attributes_by_keyword(self):
        for _, error, arguments in self.each():
            raised = error(**{argument: VALUES[argument] for argument in arguments})
            for argument in arguments:
                self.assertEqual(getattr(raised, attribute_of(argument)), VALUES[argument])

    def test_the_attribute_of_bad_limit(self):
        raised = errors.BadLimit(-1)
        self.assertEqual(raised.asked, -1)
        self.assertFalse(hasattr(raised, "limit"))

    def test_each_can_be_raised_and_has_a_message(self):
        for _, error, arguments in self.each():
            with self.assertRaises(errors.ClipError) as caught:
                raise error(*[VALUES[argument] for argument in arguments])
            self.assertIs(caught.exception.__class__, error)
            self.assertNotEqual(str(caught.exception), "")

    def test_other_numbers_of_arguments_are_refused(self):
        for _, error, arguments in self.each():
            with self.assertRaises(TypeError):
                error(*[VALUES[argument] for argument in arguments], 0)
            if arguments:
                with self.assertRaises(TypeError):
                    error()


if __name__ == "__main__":
    unittest.main()
