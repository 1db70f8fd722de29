"""Promises 6 and 7, and what promises 2 and 11 say of layings."""

import itertools
import unittest

from keynests.layings import fault, is_whole, laid, left, lying
from reckoning import EDGE_WEBS, FAR, FARTHEST, Draw, all_layings, check_own, drawn_laying, great_webs, right, small_webs

WEB = ((1, 2, 0), ((0, 1), (1, 1), (2, 0, 1), (1, 0)))


def reckoned_fault(web, laying):
    for key, nest in enumerate(laying):
        if nest is not None and nest not in list(web[1][key]):
            return ("home", key)
    for nest, room in enumerate(web[0]):
        if len([place for place in laying if place == nest]) > room:
            return ("room", nest)
    return None


class FaultTest(unittest.TestCase):
    def test_right_layings(self):
        for laying in [
            [None, None, None, None],
            [0, None, None, None],
            [None, None, None, 0],
            [0, 1, 1, None],
            [0, 1, None, 1],
            [1, 1, 0, None],
            [None, 1, 1, 0],
        ]:
            self.assertIsNone(fault(WEB, laying), laying)

    def test_a_key_in_no_home_of_it(self):
        self.assertEqual(fault(WEB, [2, None, None, None]), ("home", 0))
        self.assertEqual(fault(WEB, [0, 0, None, None]), ("home", 1))
        self.assertEqual(fault(WEB, [None, None, None, 2]), ("home", 3))

    def test_numbers_of_no_nest(self):
        for number in (-1, -2, -3, 3, 4, 10, 11, FAR, -FAR, FARTHEST, -FARTHEST):
            for key in range(4):
                laying = [None] * 4
                laying[key] = number
                self.assertEqual(fault(WEB, laying), ("home", key), laying)

    def test_a_number_from_the_end_is_no_home(self):
        # -2 would be nest 1 by Python's own reckoning from the end.
        self.assertEqual(fault(((1, 1, 1), ((1, 2), (2, 2))), [-2, -1]), ("home", 0))

    def test_a_nest_too_full(self):
        self.assertEqual(fault(WEB, [0, None, 0, None]), ("room", 0))
        self.assertEqual(fault(WEB, [1, 1, 1, None]), ("room", 1))
        self.assertEqual(fault(WEB, [None, None, 2, None]), ("room", 2))
        self.assertEqual(fault(((0,), ((0, 0),)), [0]), ("room", 0))

    def test_a_nest_just_full_is_right(self):
        self.assertIsNone(fault(((2,), ((0, 0), (0, 0, 0))), [0, 0]))
        self.assertEqual(fault(((2,), ((0, 0),) * 3), [0, 0, 0]), ("room", 0))
        self.assertIsNone(fault(((9,), ((0, 0),) * 9), [0] * 9))
        self.assertEqual(fault(((9,), ((0, 0),) * 10), [0] * 10), ("room", 0))

    def test_the_first_of_each_kind(self):
        self.assertEqual(fault(WEB, [None, 0, None, 2]), ("home", 1))
        self.assertEqual(fault(WEB, [None, None, -1, FAR]), ("home", 2))
        web = ((1, 0, 1, 0), ((0, 1), (0, 1), (2, 3), (3, 2), (2, 2)))
        self.assertEqual(fault(web, [0, 0, 2, 3, 2]), ("room", 0))
        self.assertEqual(fault(web, [0, 1, 2, 3, 2]), ("room", 1))
        self.assertEqual(fault(web, [0, None, 2, 3, 2]), ("room", 2))
        self.assertEqual(fault(web, [0, None, None, 3, 2]), ("room", 3))

    def test_the_home_goes_first(self):
        self.assertEqual(fault(WEB, [0, None, 0, 2]), ("home", 3))
        self.assertEqual(fault(WEB, [1, 1, 1, -1]), ("home", 3))
        self.assertEqual(fault(((0, 1), ((0, 1), (1, 1))), [0, 0]), ("home", 1))
        self.assertEqual(fault(((0, 0), ((0, 0), (0, 1), (1, 1))), [0, 1, 0]), ("home", 2))

    def test_a_key_counts_once_where_its_homes_are_alike(self):
        self.assertIsNone(fault(((1,), ((0, 0, 0),)), [0]))

    def test_no_keys(self):
        self.assertIsNone(fault(((0,), ()), []))
        self.assertIsNone(fault(((9,) * 10, ()), []))

    def test_rooms_far_above_nine(self):
        web = ((FAR, 10, FARTHEST), ((0, 1),) * 11 + ((2, 0),))
        self.assertIsNone(fault(web, [0] * 12))
        self.assertIsNone(fault(web, [1] * 10 + [0, 2]))
        self.assertEqual(fault(web, [1] * 11 + [2]), ("room", 1))
        self.assertEqual(fault(web, [1] * 11 + [1]), ("home", 11))

    def test_against_the_tests_own_reckoning(self):
        for web in small_webs(60, 4):
            things = [None] + list(range(-1, len(web[0]) + 1))
            for laying in itertools.product(things, repeat=len(web[1])):
                told = fault(web, list(laying))
                self.assertEqual(told, reckoned_fault(web, laying), (web, laying))
                self.assertEqual(told is None, right(web, list(laying)))

    def test_thirty_keys(self):
        for start, web in enumerate(great_webs(12)):
            draw = Draw(start)
            laying = drawn_laying(draw, web)
            self.assertIsNone(fault(web, laying))
            laying[29] = 10
            self.assertEqual(fault(web, laying), ("home", 29))
            free = [draw.one_of(homes) for homes in web[1]]
            self.assertEqual(fault(web, free), reckoned_fault(web, free))

    def test_it_tells_a_tuple(self):
        self.assertIs(fault(WEB, [2, None, None, None]).__class__, tuple)
        self.assertIs(fault(WEB, [0, None, 0, None]).__class__, tuple)

    def test_asked_again_behind_a_change_of_the_list(self):
        laying = [0, None, None, None]
        self.assertIsNone(fault(WEB, laying))
        laying[2] = 0
        self.assertEqual(fault(WEB, laying), ("room", 0))
        laying[1] = 2
        self.assertEqual(fault(WEB, laying), ("home", 1))
        laying[1] = laying[2] = None
        self.assertIsNone(fault(WEB, laying))
        self.assertEqual(laying, [0, None, None, None])

    def test_the_list_is_unchanged(self):
        for laying in ([0, 1, None, None], [2, 9, -1, None], [0, 1, 0, 1]):
            check_own(self, fault, WEB, laying)


class TellingTest(unittest.TestCase):
    def test_none_lies(self):
        self.assertEqual(laid([None, None, None, None]), [])
        self.assertEqual(lying([None] * 4, 0), [])
        self.assertEqual(left(WEB, [None] * 4), [1, 2, 0])
        self.assertIs(is_whole([None] * 4), False)

    def test_some_lie(self):
        laying = [1, None, 0, 1]
        self.assertEqual(laid(laying), [0, 2, 3])
        self.assertEqual(lying(laying, 0), [2])
        self.assertEqual(lying(laying, 1), [0, 3])
        self.assertEqual(lying(laying, 2), [])
        self.assertEqual(left(WEB, laying), [0, 0, 0])
        self.assertIs(is_whole(laying), False)

    def test_one_lies_nowhere(self):
        for key in range(4):
            laying = [0, 0, 0, 0]
            laying[key] = None
            self.assertIs(is_whole(laying), False)
            self.assertEqual(laid(laying), [other for other in range(4) if other != key])

    def test_all_lie(self):
        web = ((1, 2, 3), WEB[1])
        laying = [1, 1, 2, 0]
        self.assertEqual(laid(laying), [0, 1, 2, 3])
        self.assertEqual(lying(laying, 0), [3])
        self.assertEqual(lying(laying, 1), [0, 1])
        self.assertEqual(lying(laying, 2), [2])
        self.assertEqual(left(web, laying), [0, 0, 2])
        self.assertIs(is_whole(laying), True)

    def test_all_in_nest_0(self):
        # 0 is a nest as others are, though Python takes it for false.
        self.assertEqual(laid([0, 0, 0]), [0, 1, 2])
        self.assertEqual(lying([0, 0, 0], 0), [0, 1, 2])
        self.assertIs(is_whole([0, 0, 0]), True)

    def test_no_keys(self):
        self.assertEqual(laid([]), [])
        self.assertEqual(lying([], 0), [])
        self.assertEqual(left(((4, 0), ()), []), [4, 0])
        self.assertIs(is_whole([]), True)

    def test_rooms_far_above_nine(self):
        web = ((FARTHEST, 12), ((0, 1), (0, 0), (1, 1)))
        self.assertEqual(left(web, [0, 0, 1]), [FARTHEST - 2, 11])
        self.assertEqual(left(web, [None, None, None]), [FARTHEST, 12])

    def test_small_webs(self):
        for web in small_webs(60, 4) + EDGE_WEBS[:12]:
            for laying in all_layings(web):
                self.assertEqual(laid(laying), [key for key in range(len(laying)) if laying[key] is not None])
                self.assertIs(is_whole(laying), len(laid(laying)) == len(laying))
                for nest in range(len(web[0])):
                    self.assertEqual(lying(laying, nest), [key for key in laid(laying) if laying[key] == nest])
                told = left(web, laying)
                self.assertEqual(told, [web[0][nest] - len(lying(laying, nest)) for nest in range(len(web[0]))])

    def test_thirty_keys_rise(self):
        for start, web in enumerate(great_webs(8)):
            laying = drawn_laying(Draw(start), web)
            self.assertEqual(laid(laying), sorted(laid(laying)))
            self.assertEqual(sorted(sum([lying(laying, nest) for nest in range(10)], [])), laid(laying))
            self.assertEqual(sum(left(web, laying)) + len(laid(laying)), sum(web[0]))

    def test_what_is_told_is_a_list(self):
        for told in (laid([0, None]), lying([0, None], 0), left(((1, 1), ((0, 1), (0, 1))), [0, None])):
            self.assertIs(told.__class__, list)

    def test_own(self):
        laying = [1, None, 0, 1]
        check_own(self, is_whole, list(laying))
        check_own(self, laid, list(laying))
        check_own(self, lying, list(laying), 1)
        check_own(self, left, WEB, list(laying))
        check_own(self, left, ((1, 2, 0), ()), [])

    def test_asked_again_behind_a_change_of_the_list(self):
        laying = [1, None, 0, 1]
        before = (laid(laying), lying(laying, 1), left(WEB, laying))
        laying[3] = None
        self.assertEqual((laid(laying), lying(laying, 1), left(WEB, laying)), ([0, 2], [0], [0, 1, 0]))
        self.assertEqual(before, ([0, 2, 3], [0, 3], [0, 0, 0]))
        laying[1] = laying[3] = 1
        self.assertIs(is_whole(laying), True)
        laying[0] = None
        self.assertIs(is_whole(laying), False)


if __name__ == "__main__":
    unittest.main()
