"""The refusals: their fields, their classes and what they stand beneath."""

import itertools
import unittest

from healfloor.errors import FloorError, NoDeed, NoName, NoText, NotPaper, TooMany

WITH_FIELD = ((NoName, "name"), (NoText, "row"), (TooMany, "many"))
WITHOUT_FIELD = (NotPaper, NoDeed)
REFUSALS = tuple([kind for kind, field in WITH_FIELD]) + WITHOUT_FIELD
THINGS = (0, 8, -3, 10 ** 70, "", "far", ("a", 1), (), None, True, False)


class Fields(unittest.TestCase):
    def test_each_keeps_what_it_is_made_of(self):
        for kind, field in WITH_FIELD:
            for thing in THINGS:
                with self.subTest(kind=kind, thing=thing):
                    kept = getattr(kind(thing), field)
                    self.assertEqual(kept, thing)
                    self.assertIs(type(kept), type(thing))

    def test_two_of_a_kind_keep_their_own(self):
        one, other = NoName("one"), NoName("other")
        self.assertEqual((one.name, other.name), ("one", "other"))

    def test_made_of_nothing(self):
        for kind in WITHOUT_FIELD:
            self.assertIsInstance(kind(), kind)


class Classes(unittest.TestCase):
    def test_bases(self):
        self.assertEqual(FloorError.__bases__, (ValueError,))
        for kind in REFUSALS:
            self.assertTrue(issubclass(kind, FloorError))
            self.assertTrue(issubclass(kind, ValueError))

    def test_none_beneath_another(self):
        for one, other in itertools.permutations(REFUSALS, 2):
            self.assertFalse(issubclass(one, other), (one, other))

    def test_taken_by_own_class_and_those_above(self):
        made = [kind(thing) for kind, field in WITH_FIELD for thing in THINGS] + [NotPaper(), NoDeed()]
        for error in made:
            for kind in (type(error), FloorError, ValueError):
                with self.assertRaises(kind) as taken:
                    raise error
                self.assertIs(taken.exception, error)

    def test_taken_by_no_other_class(self):
        for one, other in itertools.permutations((NoName(1), NoText(1), TooMany(1), NotPaper(), NoDeed()), 2):
            try:
                raise one
            except type(other):
                self.fail("taken by another class")
            except FloorError as error:
                self.assertIs(error, one)


if __name__ == "__main__":
    unittest.main()
