"""The interface's refusals: what stands under what, and the values that they have."""

import unittest

from keynests import errors
from keynests.errors import Full, NestError, NoFit, NoKey, NoPairs, NoPush, NoRow, NoRule, NoText, Twice

PLAIN = [NoRule, NoPairs, Twice, NoKey, NoText, NoRow]
WITH_VALUE = [Full, NoPush, NoFit]


class ErrorsTest(unittest.TestCase):
    def test_any_refusal_is_a_value_error(self):
        self.assertEqual(NestError.__bases__, (ValueError,))

    def test_each_stands_straight_under_nest_error(self):
        for kind in PLAIN + WITH_VALUE:
            self.assertEqual(kind.__bases__, (NestError,), kind)

    def test_none_stands_under_another_one(self):
        for kind in PLAIN + WITH_VALUE:
            for other in PLAIN + WITH_VALUE:
                self.assertEqual(issubclass(kind, other), kind == other, (kind, other))

    def test_each_bears_its_own_name(self):
        for kind in PLAIN + WITH_VALUE + [NestError]:
            self.assertIs(getattr(errors, kind.__name__), kind)

    def test_plain_refusals_are_raised_and_taken(self):
        for kind in PLAIN:
            with self.assertRaises(NestError) as taken:
                raise kind("words")
            self.assertIsInstance(taken.exception, kind)

    def test_full_and_no_fit_have_some(self):
        for kind in (Full, NoFit):
            for some in ([], [0], [2, 5, 10 ** 59]):
                with self.assertRaises(NestError) as taken:
                    raise kind(some)
                self.assertIsInstance(taken.exception, kind)
                self.assertEqual(taken.exception.some, some)
                self.assertIsInstance(taken.exception.some, list)

    def test_no_push_has_at(self):
        for at in (0, 1, 30):
            with self.assertRaises(NestError) as taken:
                raise NoPush(at)
            self.assertIsInstance(taken.exception, NoPush)
            self.assertEqual(taken.exception.at, at)

    def test_each_object_has_a_value_of_its_own(self):
        for kind in (Full, NoFit):
            one, other = kind([1]), kind([2, 3])
            self.assertEqual((one.some, other.some), ([1], [2, 3]))
            self.assertNotIn("some", vars(kind))
        one, other = NoPush(1), NoPush(2)
        self.assertEqual((one.at, other.at), (1, 2))
        self.assertNotIn("at", vars(NoPush))

    def test_some_is_the_askers_own(self):
        for kind in (Full, NoFit):
            some = [1, 4]
            error = kind(some)
            some.append(7)
            self.assertEqual(error.some, [1, 4])
            error.some.append(9)
            self.assertEqual(some, [1, 4, 7])


if __name__ == "__main__":
    unittest.main()
