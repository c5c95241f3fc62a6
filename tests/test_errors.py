"""The classes of errors: their attributes and their bases."""

import unittest

from nearandfar import errors
from tests.support import Touchy, odd_values

GIVEN = """InvalidText InvalidThings InvalidThing InvalidPair InvalidWay InvalidNumber InvalidParting InvalidOrder
InvalidTie InvalidRenaming InvalidPile InvalidHeights InvalidLifts InvalidName InvalidWish InvalidCommand NotATable
NotAWeb NotASheet""".split()
INDEX = "InvalidDistances InvalidRow InvalidParts InvalidTies InvalidPiles InvalidLog".split()
POSSIBLE = "NotRight HasTwins NotRound NotAClock NotJoined TooFar TooFew TooMany Halves Unlike Torn".split()
CLASSES = (
    [(name, "WrongValue", "given") for name in GIVEN]
    + [(name, "WrongValue", "index") for name in INDEX]
    + [("UnknownThing", "WrongName", "given"), ("UnknownName", "WrongName", "given"), ("InUse", "WrongName", "index")]
    + [(name, "NotPossible", "given") for name in POSSIBLE]
    + [("NoTree", "NotPossible", None), ("NothingToUndo", "NotPossible", None), ("Broken", "NotPossible", "index")]
)
BASES = {"WrongValue": ValueError, "WrongName": LookupError, "NotPossible": ArithmeticError}


class TestErrors(unittest.TestCase):
    def test_bases(self):
        for name, base in BASES.items():
            self.assertEqual((base,), getattr(errors, name).__bases__)
            self.assertEqual({}, vars(getattr(errors, name)()))

    def test_each_class_is_under_its_one_base(self):
        own = [getattr(errors, name) for name, _, _ in CLASSES] + [getattr(errors, name) for name in BASES]
        for name, base, _ in CLASSES:
            kind = getattr(errors, name)
            self.assertEqual((getattr(errors, base),), kind.__bases__)
            self.assertEqual([kind, getattr(errors, base)], [above for above in kind.__mro__ if above in own])

    def test_there_are_no_others(self):
        classes = [name for name, value in vars(errors).items() if isinstance(value, type)]
        self.assertEqual(sorted(classes), sorted([name for name, _, _ in CLASSES] + list(BASES)))

    def test_attributes_by_position_and_by_name(self):
        for name, _, attribute in CLASSES:
            kind = getattr(errors, name)
            if attribute is None:
                self.assertEqual({}, vars(kind()))
                continue
            for value in odd_values() + [3, "ab", ("ab", "acb"), Touchy()]:
                for error in (kind(value), kind(**{attribute: value})):
                    self.assertEqual([attribute], list(vars(error)))
                    self.assertIs(value, getattr(error, attribute))

    def test_an_attribute_is_asked_for(self):
        for name, _, attribute in CLASSES:
            if attribute is not None:
                self.assertRaises(TypeError, getattr(errors, name))
                self.assertRaises(TypeError, getattr(errors, name), 1, 2)

    def test_every_error_is_true_and_raised_as_it_is(self):
        for name, base, attribute in CLASSES:
            error = getattr(errors, name)(*([] if attribute is None else [()]))
            self.assertTrue(error)
            with self.assertRaises(BASES[base]):
                raise error
