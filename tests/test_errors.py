import unittest

from keywaits import errors

WITHOUT_ATTRIBUTES = (
    "InvalidTick", "UnknownMode", "InvalidLength", "InvalidNumber", "InvalidGap", "Contradiction", "TooManyKeys",
    "InvalidBinding", "TooManyBindings", "InvalidMode", "TooManyModes", "LastMode", "InvalidWait", "InvalidCount",
    "AlreadyOpen",
)
WITH_ATTRIBUTES = {
    "InvalidMap": ("part", "index"),
    "InvalidStrokes": ("index",),
    "UnknownBinding": ("index",),
    "InvalidKey": ("index",),
    "InvalidOperation": ("index",),
    "NotationError": ("row", "word"),
    "DecodeError": ("offset",),
}


class ErrorsTest(unittest.TestCase):
    def test_base_class(self):
        self.assertEqual((ValueError,), errors.MapError.__bases__)

    def test_all_others_are_direct_subclasses(self):
        for name in list(WITHOUT_ATTRIBUTES) + list(WITH_ATTRIBUTES):
            with self.subTest(name):
                self.assertEqual((errors.MapError,), getattr(errors, name).__bases__)

    def test_there_are_no_others(self):
        found = [name for name in vars(errors) if not name.startswith("_")]
        self.assertEqual(sorted(["MapError", *WITHOUT_ATTRIBUTES, *WITH_ATTRIBUTES]), sorted(found))

    def test_attributes(self):
        for name, attributes in WITH_ATTRIBUTES.items():
            values = dict(zip(attributes, (3, 5)))
            with self.subTest(name):
                self.assertEqual(values, vars(getattr(errors, name)(*values.values())))
                self.assertEqual(values, vars(getattr(errors, name)(**values)))

    def test_no_attributes(self):
        for name in WITHOUT_ATTRIBUTES:
            with self.subTest(name):
                self.assertEqual({}, vars(getattr(errors, name)()))
