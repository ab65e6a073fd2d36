"""What the test cases share: errors of calls, and certificates."""
import unittest


class Case(unittest.TestCase):
    """A test case that can ask for exactly one error."""

    def raises(self, error, call, *args):
        """The call raises this very error, not another one of the package."""
        with self.subTest(call=call, args=args):
            with self.assertRaises(error) as caught:
                call(*args)
            self.assertIs(type(caught.exception), error)
            return caught.exception

    def all_raise(self, error, call, wrong):
        """The call raises the error for each of these lists of arguments."""
        for args in wrong:
            self.raises(error, call, *args)

    def is_shown(self, wanted, found, *args):
        """What `shows` says, which must be True or False itself."""
        with self.subTest(found=vars(found), args=args):
            self.assertIs(found.shows(*args), wanted)

    def assert_alone(self, thing, *others):
        """The thing is equal to itself and to none of the others."""
        self.assertTrue(thing == thing)
        self.assertFalse(thing != thing)
        for other in others:
            with self.subTest(other=other):
                self.assertFalse(thing == other)
                self.assertTrue(thing != other)
                self.assertFalse(other == thing)
