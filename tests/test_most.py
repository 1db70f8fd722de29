"""Promises 10 and 11, and what promises 2 and 3 say of the most and of more room."""

import itertools
import unittest

from keynests.fits import fitted
from keynests.layings import fault, laid
from keynests.most import bound, most, room_wanted, widened
from keynests.webs import is_web
from reckoning import (
    EDGE_WEBS, FAR, FARTHEST, all_layings, bound_of, check_own, great_webs, most_that_lie, right, right_and_whole,
    rising, small_webs, whole_layings)

WEB = ((1, 2, 0, 4), ((0, 1), (1, 1), (2, 0, 1), (3, 0), (2, 2)))


class BoundTest(unittest.TestCase):
    def test_no_nests(self):
        for web in EDGE_WEBS + small_webs(40):
            self.assertEqual(bound(web, []), len(web[1]), web)

    def test_some(self):
        # Room 1, and all keys have a home beyond nest 0.
        self.assertEqual(bound(WEB, [0]), 6)
        # Room 2; key 1 has no home beyond.
        self.assertEqual(bound(WEB, [1]), 6)
        self.assertEqual(bound(WEB, [2]), 4)
        self.assertEqual(bound(WEB, [0, 1]), 3 + 3)
        self.assertEqual(bound(WEB, [0, 1, 2]), 3 + 1)
        self.assertEqual(bound(WEB, [0, 2]), 1 + 4)
        self.assertEqual(bound(WEB, [0, 3]), 5 + 4)

    def test_all(self):
        self.assertEqual(bound(WEB, [0, 1, 2, 3]), 7)
        for web in EDGE_WEBS + small_webs(40):
            self.assertEqual(bound(web, list(range(len(web[0])))), sum(web[0]), web)

    def test_nests_that_are_no_home(self):
        self.assertEqual(bound(((3, 1, 5), ((1, 1), (1, 1))), [0, 2]), 10)
        self.assertEqual(bound(((3, 1), ()), [0]), 3)

    def test_rooms_far_above_nine(self):
        web = ((FARTHEST, 12, 0), ((0, 1), (1, 2), (2, 2)))
        self.assertEqual(bound(web, [0]), FARTHEST + 3)
        self.assertEqual(bound(web, [1, 2]), 13)

    def test_small_webs_and_no_laying_above(self):
        for web in small_webs(100, 5):
            greatest = most_that_lie(web)
            for size in range(len(web[0]) + 1):
                for nests in itertools.combinations(range(len(web[0])), size):
                    told = bound(web, list(nests))
                    self.assertEqual(told, bound_of(web, nests), (web, nests))
                    self.assertGreaterEqual(told, greatest)

    def test_own(self):
        check_own(self, bound, WEB, [0, 1])
        check_own(self, bound, WEB, [])

    def test_asked_again_behind_a_change_of_the_list(self):
        nests = [0, 1]
        self.assertEqual(bound(WEB, nests), 6)
        nests.append(2)
        self.assertEqual(bound(WEB, nests), 4)


class MostTest(unittest.TestCase):
    def check(self, web):
        told = most(web)
        self.assertIs(told.__class__, tuple)
        self.assertEqual(len(told), 2)
        self.assertTrue(right(web, told[0]), (web, told))
        self.assertTrue(rising(told[1], len(web[0])), (web, told))
        many = len(web[1]) - told[0].count(None)
        self.assertEqual(many, bound_of(web, told[1]), (web, told))
        self.assertEqual(many, bound(web, told[1]), (web, told))
        return many

    def test_small_webs_against_all_layings(self):
        short = 0
        for web in small_webs(400) + EDGE_WEBS[:15]:
            many = self.check(web)
            self.assertEqual(many, most_that_lie(web), web)
            short += many < len(web[1])
        self.assertGreater(short, 100)

    def test_edges(self):
        self.assertEqual(most(((0,), ()))[0], [])
        self.assertEqual(most(((0,), ((0, 0),))), ([None], [0]))
        self.assertEqual(self.check(((1,), ((0, 0), (0, 0), (0, 0)))), 1)
        for web in EDGE_WEBS:
            self.check(web)

    def test_all_lie_where_they_fit(self):
        for web in small_webs(150) + great_webs(30):
            self.assertEqual(None not in most(web)[0], fitted(web)[0] == "fits", web)

    def test_thirty_keys(self):
        short = [self.check(web) for web in great_webs(60)]
        self.assertGreater(short.count(30), 10)
        self.assertLess(short.count(30), 50)

    def test_two_crowds_apart(self):
        web = ((1, 1, 9, 0), ((0, 0), (1, 1), (0, 0), (2, 1), (1, 1), (3, 3), (2, 2)))
        self.assertEqual(self.check(web), 4)

    def test_rooms_far_above_nine(self):
        self.assertEqual(self.check(((FAR, 0), ((0, 1),) * 30)), 30)
        self.assertEqual(self.check(((FARTHEST, 10, 1), ((1, 1),) * 12 + ((0, 2), (2, 2), (2, 2)))), 12)

    def test_own(self):
        for web in (WEB, ((1,), ((0, 0), (0, 0))), ((1,), ()), ((2,), ((0, 0),))):
            check_own(self, most, web)


class WidenedTest(unittest.TestCase):
    def test_nothing_more(self):
        for web in EDGE_WEBS:
            self.assertEqual(widened(web, [0] * len(web[0])), web)

    def test_each_nest_its_own(self):
        self.assertEqual(widened(WEB, [1, 0, 7, 100]), ((2, 2, 7, 104), WEB[1]))
        self.assertEqual(widened(((9,), ()), [1]), ((10,), ()))

    def test_numbers_of_sixty_figures(self):
        self.assertEqual(widened(WEB, [FAR, FARTHEST, 0, 3]), ((FAR + 1, FARTHEST + 2, 0, 7), WEB[1]))

    def test_tuples_and_the_keys_as_they_were(self):
        told = widened(WEB, [1, 2, 3, 4])
        self.assertIs(told.__class__, tuple)
        self.assertEqual(len(told), 2)
        self.assertIs(told[0].__class__, tuple)
        self.assertIs(told[1].__class__, tuple)
        for key in told[1]:
            self.assertIs(key.__class__, tuple)
        self.assertEqual(told[1], WEB[1])

    def test_whether_it_is_a_web(self):
        self.assertIs(is_web(widened(WEB, [8, 7, 9, 5])), True)
        self.assertIs(is_web(widened(WEB, [9, 0, 0, 0])), False)

    def test_again_and_again(self):
        self.assertEqual(widened(widened(WEB, [1, 2, 3, 4]), [5, 6, 7, 8]), widened(WEB, [6, 8, 10, 12]))

    def test_own(self):
        check_own(self, widened, WEB, [1, 2, 3, 4])

    def test_asked_again_behind_a_change_of_the_list(self):
        more = [1, 2, 3, 4]
        told = widened(WEB, more)
        more[0] = 5
        self.assertEqual(told, ((2, 4, 3, 8), WEB[1]))
        self.assertEqual(widened(WEB, more), ((6, 4, 3, 8), WEB[1]))


class RoomWantedTest(unittest.TestCase):
    def check(self, web):
        told = room_wanted(web)
        self.assertIs(told.__class__, tuple)
        self.assertEqual(len(told), 2)
        more, laying = told
        self.assertIs(more.__class__, list)
        self.assertEqual(len(more), len(web[0]))
        self.assertTrue(all(added.__class__ is int and added >= 0 for added in more), told)
        self.assertEqual(sum(more), len(web[1]) - len(laid(most(web)[0])), (web, told))
        wide = widened(web, more)
        self.assertTrue(right_and_whole(wide, laying), (web, told))
        self.assertIsNone(fault(wide, laying))
        self.assertEqual(fitted(wide)[0], "fits")
        return sum(more)

    def test_small_webs(self):
        for web in small_webs(300) + EDGE_WEBS[:15]:
            self.assertEqual(self.check(web), len(web[1]) - most_that_lie(web), web)

    def test_no_less_room_does(self):
        for web in small_webs(60, 4):
            total = self.check(web)
            for more in itertools.product(range(max(total, 1)), repeat=len(web[0])):
                if sum(more) < total:
                    self.assertEqual(whole_layings(widened(web, list(more))), [], (web, more))

    def test_all_0_where_all_lie_as_it_is(self):
        fitting = [web for web in small_webs(150) + great_webs(20) + EDGE_WEBS if fitted(web)[0] == "fits"]
        self.assertGreater(len(fitting), 50)
        for web in fitting:
            self.assertEqual(room_wanted(web)[0], [0] * len(web[0]))

    def test_edges(self):
        self.assertEqual(room_wanted(((0,), ())), ([0], []))
        self.assertEqual(room_wanted(((0,), ((0, 0),))), ([1], [0]))
        self.assertEqual(room_wanted(((0,), ((0, 0),) * 30)), ([30], [0] * 30))
        self.assertEqual(room_wanted(((0, 0), ((1, 1), (0, 0)))), ([1, 1], [1, 0]))
        for web in EDGE_WEBS:
            self.check(web)

    def test_thirty_keys(self):
        for web in great_webs(40):
            self.check(web)

    def test_rooms_far_above_nine(self):
        self.assertEqual(room_wanted(((FAR, 0), ((1, 1), (0, 1)))), ([0, 1], [1, 0]))
        self.assertEqual(room_wanted(((10, FARTHEST), ((0, 0),) * 12))[0], [2, 0])

    def test_own(self):
        for web in (WEB, ((1,), ((0, 0), (0, 0))), ((1,), ())):
            check_own(self, room_wanted, web)


class RightLayingsTest(unittest.TestCase):
    def test_those_gone_through_are_right(self):
        for web in small_webs(40, 4):
            for laying in all_layings(web):
                self.assertIsNone(fault(web, laying))


if __name__ == "__main__":
    unittest.main()
