"""Promise 23, and what promises 2 and 11 say of other names."""

import itertools
import unittest

from keynests.fits import fitted, is_crowd
from keynests.layings import fault, is_whole, laid
from keynests.most import bound, most
from keynests.names import keys_named, laying_of_keys, laying_of_nests, nests_named, some_named
from keynests.pairs import parts
from keynests.webs import is_web
from reckoning import EDGE_WEBS, FAR, FARTHEST, Draw, check_own, drawn_laying, great_webs, small_webs, tight_webs

WEB = ((1, 2, 0), ((0, 1), (2, 2, 0), (1, 2)))
TURN = [1, 2, 0]


def turned_about(order):
    told = [None] * len(order)
    for place, number in enumerate(order):
        told[number] = place
    return told


def sets_below(many):
    for size in range(many + 1):
        for some in itertools.combinations(range(many), size):
            yield list(some)


class WrittenOutTest(unittest.TestCase):
    def test_nests(self):
        self.assertEqual(nests_named(WEB, TURN), ((0, 1, 2), ((1, 2), (0, 0, 1), (2, 0))))
        self.assertEqual(nests_named(WEB, [1, 0, 2]), ((2, 1, 0), ((1, 0), (2, 2, 1), (0, 2))))

    def test_homes_stay_in_their_order(self):
        self.assertEqual(nests_named(((1, 2), ((0, 1), (1, 0), (0, 0, 1))), [1, 0])[1], ((1, 0), (0, 1), (1, 1, 0)))

    def test_keys(self):
        self.assertEqual(keys_named(WEB, TURN), ((1, 2, 0), ((1, 2), (0, 1), (2, 2, 0))))
        self.assertEqual(keys_named(WEB, [1, 0, 2]), ((1, 2, 0), ((2, 2, 0), (0, 1), (1, 2))))

    def test_layings_of_nests(self):
        self.assertEqual(laying_of_nests([0, 2, 1], TURN), [1, 0, 2])
        self.assertEqual(laying_of_nests([None, 2, None, 0, 0, 1], TURN), [None, 0, None, 1, 1, 2])
        self.assertEqual(laying_of_nests([], TURN), [])

    def test_layings_of_keys(self):
        self.assertEqual(laying_of_keys([0, 2, 1], TURN), [1, 0, 2])
        self.assertEqual(laying_of_keys([None, 7, 5], TURN), [5, None, 7])
        self.assertEqual(laying_of_keys([], []), [])

    def test_layings_that_are_not_right(self):
        self.assertEqual(laying_of_nests([2, 2, 2], TURN), [0, 0, 0])
        self.assertEqual(laying_of_keys([-1, FAR, 3], TURN), [3, -1, FAR])

    def test_numbers_of_no_nest_have_no_other_name(self):
        for number in (-1, -2, -3, 3, 4, 10, FAR, -FAR, FARTHEST):
            self.assertEqual(laying_of_nests([0, number, None], TURN), [1, number, None])

    def test_some(self):
        self.assertEqual(some_named([0, 1, 2], TURN), [0, 1, 2])
        self.assertEqual(some_named([0, 1], TURN), [1, 2])
        self.assertEqual(some_named([1, 2], TURN), [0, 2])
        self.assertEqual(some_named([2], TURN), [0])
        self.assertEqual(some_named([], TURN), [])
        self.assertEqual(some_named([], []), [])
        self.assertEqual(some_named([0, 3, 9], [9, 8, 7, 6, 5, 4, 3, 2, 1, 0]), [0, 6, 9])

    def test_the_order_that_leaves_all(self):
        self.assertEqual(nests_named(WEB, [0, 1, 2]), WEB)
        self.assertEqual(keys_named(WEB, [0, 1, 2]), WEB)
        self.assertEqual(laying_of_nests([2, None, 0, -1], [0, 1, 2]), [2, None, 0, -1])
        self.assertEqual(laying_of_keys([2, None, 0], [0, 1, 2]), [2, None, 0])
        self.assertEqual(some_named([0, 2], [0, 1, 2]), [0, 2])

    def test_no_keys(self):
        self.assertEqual(nests_named(((1, 2), ()), [1, 0]), ((2, 1), ()))
        self.assertEqual(keys_named(((1, 2), ()), []), ((1, 2), ()))

    def test_kinds(self):
        for web in (nests_named(WEB, TURN), keys_named(WEB, TURN)):
            self.assertIs(is_web(web), True)
        for told in (laying_of_nests([0, 1, 2], TURN), laying_of_keys([0, 1, 2], TURN), some_named([0, 1], TURN)):
            self.assertIs(told.__class__, list)

    def test_rooms_far_above_nine(self):
        web = ((FAR, 10, FARTHEST), ((0, 1), (2, 2, 0)))
        self.assertEqual(nests_named(web, TURN), ((FARTHEST, FAR, 10), ((1, 2), (0, 0, 1))))
        self.assertEqual(keys_named(web, [1, 0]), ((FAR, 10, FARTHEST), ((2, 2, 0), (0, 1))))


class DrawnTest(unittest.TestCase):
    def asks(self):
        for start, web in enumerate(small_webs(120, 5) + tight_webs(60) + great_webs(10) + EDGE_WEBS):
            draw = Draw(start)
            nests = draw.shuffled(range(len(web[0])))
            yield web, nests, draw.shuffled(range(len(web[1]))), drawn_laying(draw, web, 3)

    def test_each_name_by_its_own(self):
        for web, nests, keys, _ in self.asks():
            named = nests_named(web, nests)
            for nest, room in enumerate(web[0]):
                self.assertEqual(named[0][nests[nest]], room)
            for key, homes in enumerate(web[1]):
                self.assertEqual(named[1][key], tuple(nests[nest] for nest in homes))
            moved = keys_named(web, keys)
            self.assertEqual(moved[0], web[0])
            for key, homes in enumerate(web[1]):
                self.assertEqual(moved[1][keys[key]], homes)

    def test_there_and_back(self):
        for web, nests, keys, laying in self.asks():
            self.assertEqual(nests_named(nests_named(web, nests), turned_about(nests)), web)
            self.assertEqual(keys_named(keys_named(web, keys), turned_about(keys)), web)
            wrong = laying + [-1, len(nests), None, FAR]
            self.assertEqual(laying_of_nests(laying_of_nests(wrong, nests), turned_about(nests)), wrong)
            self.assertEqual(laying_of_keys(laying_of_keys(laying, keys), turned_about(keys)), laying)
            some = laid(laying)
            self.assertEqual(some_named(some_named(some, keys), turned_about(keys)), some)

    def test_right_layings_stay_such(self):
        for web, nests, keys, laying in self.asks():
            self.assertIsNone(fault(nests_named(web, nests), laying_of_nests(laying, nests)))
            moved = laying_of_keys(laying, keys)
            self.assertIsNone(fault(keys_named(web, keys), moved))
            self.assertEqual(laid(moved), some_named(laid(laying), keys))
            self.assertEqual(is_whole(moved), is_whole(laying))

    def test_wrong_layings_stay_such(self):
        for web, nests, keys, laying in self.asks():
            for key in range(len(laying)):
                wrong = list(laying)
                wrong[key] = len(web[0])
                self.assertEqual(fault(nests_named(web, nests), laying_of_nests(wrong, nests)), ("home", key))
                self.assertEqual(fault(keys_named(web, keys), laying_of_keys(wrong, keys)), ("home", keys[key]))

    def test_crowds_stay_such(self):
        for web, nests, keys, _ in self.asks():
            told = fitted(web)
            self.assertEqual(fitted(nests_named(web, nests))[0], told[0])
            self.assertEqual(fitted(keys_named(web, keys))[0], told[0])
            if len(web[1]) < 6:
                for some in sets_below(len(web[1])):
                    answer = is_crowd(web, some)
                    self.assertIs(is_crowd(nests_named(web, nests), some), answer)
                    self.assertIs(is_crowd(keys_named(web, keys), some_named(some, keys)), answer)

    def test_bounds_stay_such(self):
        for web, nests, keys, _ in self.asks():
            for some in list(sets_below(len(web[0])))[:40]:
                answer = bound(web, some)
                self.assertEqual(bound(nests_named(web, nests), some_named(some, nests)), answer)
                self.assertEqual(bound(keys_named(web, keys), some), answer)
            many = len(laid(most(web)[0]))
            self.assertEqual(len(laid(most(nests_named(web, nests))[0])), many)
            self.assertEqual(len(laid(most(keys_named(web, keys))[0])), many)

    def test_parts_stay_such(self):
        for web, nests, keys, _ in self.asks():
            told = sorted((some_named(part[0], nests), part[1]) for part in parts(web))
            self.assertEqual(parts(nests_named(web, nests)), told)
            told = sorted((part[0], some_named(part[1], keys)) for part in parts(web))
            self.assertEqual(parts(keys_named(web, keys)), told)


class OwnTest(unittest.TestCase):
    def test_own(self):
        check_own(self, nests_named, WEB, list(TURN))
        check_own(self, keys_named, WEB, list(TURN))
        check_own(self, laying_of_nests, [0, None, 2], list(TURN))
        check_own(self, laying_of_keys, [0, None, 2], list(TURN))
        check_own(self, some_named, [0, 2], list(TURN))
        check_own(self, laying_of_nests, [0, None, 2], [0, 1, 2])
        check_own(self, laying_of_keys, [0, None, 2], [0, 1, 2])
        check_own(self, some_named, [0, 2], [0, 1, 2])

    def test_another_list_is_told(self):
        laying, some, leave = [0, 1], [0, 1], [0, 1]
        self.assertIsNot(laying_of_nests(laying, leave), laying)
        self.assertIsNot(laying_of_keys(laying, leave), laying)
        self.assertIsNot(some_named(some, leave), some)

    def test_asked_again_behind_a_change_of_the_lists(self):
        order, laying, some = [1, 2, 0], [0, None, 2], [0, 2]
        before = (nests_named(WEB, order), laying_of_nests(laying, order), some_named(some, order))
        order[0], order[1] = 2, 1
        laying[1], some[0] = 1, 1
        self.assertEqual(nests_named(WEB, order), ((0, 2, 1), ((2, 1), (0, 0, 2), (1, 0))))
        self.assertEqual(laying_of_nests(laying, order), [2, 1, 0])
        self.assertEqual(some_named(some, order), [0, 1])
        self.assertEqual(before, (((0, 1, 2), ((1, 2), (0, 0, 1), (2, 0))), [1, None, 0], [0, 1]))


if __name__ == "__main__":
    unittest.main()
