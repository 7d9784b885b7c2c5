"""The error classes of the interface."""

import unittest

from grainyard import errors

# Class name -> (base class name, attribute name or None).
CLASSES = {
    "BadRoot": ("GrainError", "number"),
    "BadCount": ("GrainError", "number"),
    "BadLength": ("GrainError", "at"),
    "BadSheet": ("GrainError", None),
    "BadRow": ("GrainError", "at"),
    "OtherRoot": ("GrainError", None),
    "BadStep": ("GrainError", "at"),
    "NotLinked": ("GrainError", "number"),
    "NotEnough": ("GrainError", None),
    "TooGreat": ("GrainError", "most"),
    "BadWidths": ("GrainError", None),
    "NoSquares": ("GrainError", "reason"),
    "BadForm": ("GrainError", None),
    "BadText": ("GrainError", "at"),
    "BadName": ("GrainError", "name"),
    "Taken": ("GrainError", "name"),
    "Full": ("GrainError", "most"),
    "BadDeed": ("GrainError", "at"),
    "NoSheet": ("GrainMissing", "sheet"),
    "NoName": ("GrainMissing", "name"),
    "NoOrder": ("GrainMissing", "name"),
    "NothingLeft": ("IndexError", None),
}

VALUES = [0, -1, 10**20, -(10**5000), None, "oak", "", (1, -1), ((1, 0), (0, 1))]


def class_of(name):
    return getattr(errors, name)


def examples(name):
    """Objects of a class, each with the value that it was passed."""
    attribute = CLASSES[name][1]
    if attribute is None:
        return [(class_of(name)(), None)]
    return [(class_of(name)(item), item) for item in VALUES]


class ErrorClasses(unittest.TestCase):
    def test_word_is_the_class_name(self):
        for name in CLASSES:
            for error, _ in examples(name):
                self.assertEqual(error.word, name)
                self.assertEqual(vars(error)["word"], name)

    def test_attribute_is_the_argument(self):
        for name, (_, attribute) in CLASSES.items():
            for error, item in examples(name):
                listed = {"word": name} if attribute is None else {"word": name, attribute: item}
                self.assertEqual(vars(error), listed)

    def test_arguments_are_needed_and_no_others(self):
        for name, (_, attribute) in CLASSES.items():
            wrong = (1,) if attribute is None else ()
            self.assertRaises(TypeError, class_of(name), *wrong)
            self.assertRaises(TypeError, class_of(name), 1, 2)

    def test_attribute_by_name(self):
        for name, (_, attribute) in CLASSES.items():
            if attribute is not None:
                self.assertEqual(getattr(class_of(name)(**{attribute: 7}), attribute), 7)

    def test_base_classes(self):
        self.assertEqual(errors.GrainError.__bases__, (ValueError,))
        self.assertEqual(errors.GrainMissing.__bases__, (LookupError,))
        bases = {"GrainError": errors.GrainError, "GrainMissing": errors.GrainMissing, "IndexError": IndexError}
        for name, (base, _) in CLASSES.items():
            self.assertEqual(class_of(name).__bases__, (bases[base],), name)

    def test_no_class_is_a_base_class_of_another_one(self):
        for name in CLASSES:
            for other in CLASSES:
                self.assertEqual(issubclass(class_of(name), class_of(other)), name == other)

    def test_the_two_bases_are_apart(self):
        for name, (base, _) in CLASSES.items():
            self.assertEqual(issubclass(class_of(name), errors.GrainError), base == "GrainError")
            self.assertEqual(issubclass(class_of(name), ValueError), base == "GrainError")
            self.assertEqual(issubclass(class_of(name), errors.GrainMissing), base == "GrainMissing")
            self.assertEqual(issubclass(class_of(name), LookupError), base != "GrainError")

    def test_nothing_else_is_defined(self):
        defined = {name for name, item in vars(errors).items() if isinstance(item, type)}
        self.assertEqual(defined, set(CLASSES) | {"GrainError", "GrainMissing"})

    def test_classes_are_defined_there(self):
        for name in ["GrainError", "GrainMissing", *CLASSES]:
            self.assertEqual(class_of(name).__module__, "grainyard.errors")

    def test_messages_can_be_written_for_numbers_of_any_size(self):
        for name in CLASSES:
            for error, _ in examples(name):
                self.assertTrue(str(error))
                self.assertIn(name, repr(error))

    def test_each_can_be_raised_and_caught_by_its_base(self):
        for name in CLASSES:
            for error, _ in examples(name):
                with self.assertRaises(class_of(name).__bases__[0]) as caught:
                    raise error
                self.assertIs(caught.exception, error)


if __name__ == "__main__":
    unittest.main()
