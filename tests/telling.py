"""What the tests of told values have in common."""

import copy
import unittest

from refusals import assert_refused


class TellingCase(unittest.TestCase):
    def assert_told(self, told, wanted):
        """The same value of the same kinds throughout: 1 is not True, a tuple no list."""
        self.assertEqual(told, wanted)
        self.assertEqual(kinds_within(told), kinds_within(wanted))

    def tell(self, asked, *given):
        """What the call tells; it leaves what was handed in as it was, and tells the same again
        where the lists that it told before were changed."""
        kept = copy.deepcopy(given)
        told = asked(*given)
        wanted = copy.deepcopy(told)
        self.assert_told(given, kept)
        spoil(told)
        self.assert_told(given, kept)
        again = asked(*given)
        self.assert_told(again, wanted)
        return again

    def refuse(self, refusal, asked, *given):
        """The call is refused, and leaves what was handed in as it was."""
        kept = copy.deepcopy(given)
        assert_refused(self, refusal, asked, *given)
        self.assert_told(given, kept)


def kinds_within(told):
    if isinstance(told, (list, tuple)):
        return (type(told), [kinds_within(held) for held in told])
    return type(told)


def in_short(thing):
    try:
        return repr(thing)[:80]
    except ValueError:
        return "something with a number too long to be written out"


def spoil(told):
    """Changes every list within what was told."""
    if isinstance(told, (list, tuple)):
        for held in told:
            spoil(held)
    if isinstance(told, list):
        told.clear()
        told.append("spoiled")
