"""What the tests share: a test case that looks at errors closely, and values of all kinds."""

import copy
import unittest

BIG = 10 ** 59 + 7
RESERVED_WORDS = (
    "call do either else end endless form frame function handler house kind limit loop most now or"
    " returns room shut size stop take task times"
).split()
NAMES = ("a", "z", "abcdefgh", "zzzzzzzz", "calls", "en", "loops", "tim")
NO_NAMES = (
    "", "abcdefghi", "A", "aB", "a1", "1", "a b", " a", "a ", "a_", "_", "a\n", "\n", "a-b", "ab.", "{", "`", "@",
    None, True, False, 0, 1, b"a", ("a",), ["a"], {"a": 1}, {"a"}, frozenset("a"), object(), str, len,
    *RESERVED_WORDS,
)
ODD_VALUES = (
    None, True, False, 0, 1, -1, BIG, "", "a", "now", "0", b"", b"a", (), [], {}, set(), frozenset(), object(), int,
    len, (1,), [1], ((),), [()], (None,), ((None,),), {"a": 1}, {1: "a"}, (("a", True),), [("a", 1)], range(3),
    Ellipsis, NotImplemented, ValueError("a"),
)


def same(one, other):
    """Whether two values are equal and of the same kinds throughout: True is not 1, a list no tuple."""
    return type(one) is type(other) and repr(one) == repr(other) and one == other


class Case(unittest.TestCase):
    maxDiff = None

    def is_same(self, one, other, said=None):
        self.assertTrue(same(one, other), f"{one!r} is not {other!r} {said or ''}")

    def fails(self, error, fields, action, *args, **named):
        """The call raises just this error with these fields, and leaves its arguments as they were."""
        before = repr((args, named))
        with self.assertRaises(error, msg=before[:300]) as caught:
            action(*args, **named)
        raised = caught.exception
        self.assertIs(type(raised), error, before[:300])
        for name, value in fields.items():
            self.is_same(getattr(raised, name), value, f"in {name} for {before[:300]}")
        self.assertEqual(before, repr((args, named)))
        return raised

    def gives(self, wanted, action, *args, **named):
        """The call gives this value, again if repeated, and leaves its arguments as they were."""
        before = copy.deepcopy((args, named))
        self.is_same(action(*args, **named), wanted, f"for {before!r}"[:500])
        self.is_same(action(*args, **named), wanted, f"again, for {before!r}"[:500])
        self.is_same((args, named), before)
