"""What several test files look at in the same way."""

import unittest

import samples
from linkorcut.errors import NetError


class Case(unittest.TestCase):

    def assert_refused(self, refusal, ask, *things):
        """Looks at a refusal's very class, and tells it."""
        with self.assertRaises(NetError) as caught:
            ask(*things)
        self.assertIs(type(caught.exception), refusal, things)
        return caught.exception

    def assert_refused_with(self, refusal, ask, *things):
        """Looks at a refusal's class and at its field."""
        told = self.assert_refused(type(refusal), ask, *things)
        self.assertEqual(vars(told), vars(refusal), things)

    def assert_new(self, *told):
        """Looks whether no list or tuple is within two of these things, or twice in one."""
        every = [each for one in told for each in samples.lists(one)]
        self.assertEqual(len({id(each) for each in every}), len(every), told)
