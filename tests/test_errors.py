"""Point [2] and the list of errors: families, names, and the very things an error is made of."""

import unittest

from fallcuts import errors
from fallcuts.errors import FallError, NothingLeft, TooMany

# The name of each class, the class that stands directly above it, and its attributes.
LISTED = [
    ("BadDrawing", FallError, ["place"]),
    ("BadCompany", FallError, ["number"]),
    ("BadMove", FallError, ["given"]),
    ("BadNumber", FallError, ["given"]),
    ("BadPoint", FallError, ["given"]),
    ("BadStep", FallError, ["given"]),
    ("BadPaper", FallError, ["part"]),
    ("BadLog", FallError, ["number"]),
    ("BadText", FallError, ["line", "word"]),
    ("TooMany", OverflowError, ["most"]),
    ("NothingLeft", RuntimeError, ["many"]),
]


class Stubborn:
    """An object of which nothing can be asked."""

    __hash__ = None

    def refuse(self, *told):
        raise ZeroDivisionError("asked")

    __eq__ = __repr__ = __str__ = __bool__ = __len__ = __iter__ = __getitem__ = refuse


THINGS = [
    None, True, False, 0, -1, 16, 10 ** 39, 1.5, "", "ground", "a\nb", b"x", (), (0, (1, [2])), ((0, 1),), [],
    [1, [2]], {}, {"a": [1]}, {1, 2}, object(), len, FallError, ValueError("x"), TooMany(16), Stubborn(),
]


class ErrorsTest(unittest.TestCase):

    def each_class(self):
        return [(getattr(errors, name), family, names) for name, family, names in LISTED]

    def test_an_error_has_the_very_things_by_position(self):
        for kind, _, names in self.each_class():
            for at, thing in enumerate(THINGS):
                things = [thing, THINGS[at - 1]][:len(names)]
                made = kind(*things)
                for name, given in zip(names, things):
                    self.assertIs(getattr(made, name), given)

    def test_an_error_has_the_very_things_by_their_names(self):
        for kind, _, names in self.each_class():
            for at, thing in enumerate(THINGS):
                named = dict(zip(reversed(names), [thing, THINGS[at - 1]]))
                made = kind(**named)
                for name in names:
                    self.assertIs(getattr(made, name), named[name])

    def test_lists_and_dicts_in_an_error_stay_as_they_were(self):
        for kind, _, names in self.each_class():
            rows, table = [1, [2]], {"a": [3]}
            made = kind(*[rows, table][:len(names)])
            self.assertEqual((rows, table), ([1, [2]], {"a": [3]}))
            rows.append(4)
            self.assertIs(getattr(made, names[0]), rows)

    def test_each_class_stands_directly_under_its_one_family(self):
        for kind, family, _ in self.each_class():
            self.assertEqual(kind.__bases__, (family,))

    def test_no_error_stands_under_another_family(self):
        families = [FallError, OverflowError, RuntimeError]
        for kind, family, names in self.each_class():
            made = kind(*[0, 0][:len(names)])
            self.assertEqual([isinstance(made, other) for other in families], [family is other for other in families])
            self.assertEqual(isinstance(made, ValueError), family is FallError)
            others = [getattr(errors, name) for name, _, _ in LISTED]
            self.assertEqual([other for other in others if isinstance(made, other)], [kind])

    def test_the_family_itself(self):
        self.assertEqual(FallError.__bases__, (ValueError,))
        self.assertFalse(issubclass(TooMany, FallError) or issubclass(NothingLeft, FallError))
        self.assertFalse(issubclass(TooMany, ValueError) or issubclass(NothingLeft, ValueError))

    def test_errors_are_raised_and_caught_by_name_and_by_family(self):
        for kind, family, names in self.each_class():
            for caught_as in (kind, family):
                made = kind(*[0, 1][:len(names)])
                with self.assertRaises(caught_as) as caught:
                    raise made
                self.assertIs(caught.exception, made)

    def test_each_class_stands_in_its_own_file(self):
        for kind, _, _ in self.each_class():
            self.assertEqual(kind.__module__, "fallcuts.errors")
        self.assertEqual(FallError.__module__, "fallcuts.errors")


if __name__ == "__main__":
    unittest.main()
