"""What several test files need."""

import unittest


class Rude:
    """An object that can be asked nothing."""

    def _refuse(self, *ignored):
        raise RuntimeError("the program asked an object that it should only have refused")

    __eq__ = __ne__ = __lt__ = __gt__ = __le__ = __ge__ = _refuse
    __bool__ = __len__ = __iter__ = __getitem__ = __contains__ = _refuse
    __hash__ = __str__ = __repr__ = __int__ = __index__ = __call__ = _refuse
    __add__ = __radd__ = __mul__ = __rmul__ = __neg__ = _refuse


class Agreeable:
    """An object that claims to be equal to everything."""

    def __eq__(self, other):
        return True

    def __ne__(self, other):
        return False

    def __hash__(self):
        return 0


RUDE = Rude()
AGREEABLE = Agreeable()
NO_WHOLE_NUMBERS = [None, True, False, 1.0, "1", "", b"1", [1], (1,), {}, {1}, object(), RUDE, AGREEABLE, int]
NO_STRINGS = [None, True, False, 0, 1, 1.0, b"a", ["a"], ("a",), {}, {"a"}, object(), RUDE, AGREEABLE, str]
NO_LISTINGS = [None, True, False, 0, "", "ab", b"", {}, {"a": 1}, set(), frozenset(), iter([]), range(0),
               object(), RUDE, AGREEABLE, list]


def digits(many):
    """A number of so many digits."""
    return 10 ** (many - 1) + 7


def no_indices(size):
    """Values that are not the index of one of so many things."""
    return [*NO_WHOLE_NUMBERS, -1, -size, size, size + 1, digits(200), -digits(200)]


class Case(unittest.TestCase):

    def assert_refused(self, error, value, call, *args, field="value", **more):
        """The call raises exactly this error, and the field is the very value."""
        with self.assertRaises(error) as caught:
            call(*args, **more)
        self.assertIs(type(caught.exception), error)
        self.assertIs(getattr(caught.exception, field), value)
        return caught.exception

    def assert_refused_late(self, error, value, generator, *args, **more):
        """The error is raised when the iteration begins, not by the call."""
        begun = generator(*args, **more)
        return self.assert_refused(error, value, next, begun)

    def assert_same(self, found, wanted):
        """Equal, and of the same classes throughout; True is not 1 here."""
        self.assertEqual(found, wanted)
        self.assertIs(type(found), type(wanted))
        if isinstance(found, (list, tuple)):
            for one, other in zip(found, wanted):
                self.assert_same(one, other)

    def assert_unequal(self, one, other):
        self.assertIs(one == other, False)
        self.assertIs(one != other, True)

    def assert_equal_objects(self, one, other):
        self.assertIs(one == other, True)
        self.assertIs(one != other, False)

    def assert_fixed(self, thing, *names):
        """The names are properties that can only be read."""
        for name in names:
            self.assertIsInstance(getattr(type(thing), name), property)
            with self.assertRaises(AttributeError):
                setattr(thing, name, 0)

    def assert_own_methods(self, cls, *names):
        for name in names:
            self.assertIn(name, vars(cls))
