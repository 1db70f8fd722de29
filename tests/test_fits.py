"""Promises 8 and 9, and what promises 2, 3 and 11 say of what fits."""

import itertools
import unittest

from keynests.fits import fitted, is_crowd, trimmed
from reckoning import (
    EDGE_WEBS, FAR, FARTHEST, Draw, check_own, crowd, drawn_web, great_webs, less, right_and_whole, rising, small_webs,
    tight_crowd, whole_layings)


def all_sets(many):
    for size in range(many + 1):
        for some in itertools.combinations(range(many), size):
            yield list(some)


def trimmed_by_steps(web, some):
    """The least key first, again and again, each time from the first key on."""
    rest = list(some)
    while True:
        spare = [key for key in rest if crowd(web, less(rest, key))]
        if not spare:
            return rest
        rest = less(rest, min(spare))


class IsCrowdTest(unittest.TestCase):
    def test_no_keys_are_none(self):
        for web in EDGE_WEBS:
            self.assertIs(is_crowd(web, []), False, web)

    def test_written_out(self):
        web = ((1, 1, 0, 2), ((0, 1), (1, 0), (0, 0, 1), (2, 2), (3, 3), (3, 2)))
        self.assertIs(is_crowd(web, [0]), False)
        self.assertIs(is_crowd(web, [0, 1]), False)
        self.assertIs(is_crowd(web, [0, 1, 2]), True)
        self.assertIs(is_crowd(web, [3]), True)
        self.assertIs(is_crowd(web, [4, 5]), False)
        self.assertIs(is_crowd(web, [3, 4]), False)
        self.assertIs(is_crowd(web, [3, 4, 5]), True)
        # Four rooms for four keys, and then one key more.
        self.assertIs(is_crowd(web, [0, 1, 4, 5]), False)
        self.assertIs(is_crowd(web, [0, 1, 2, 3, 4]), True)
        self.assertIs(is_crowd(web, [0, 1, 2, 3, 4, 5]), True)

    def test_a_home_counts_once(self):
        self.assertIs(is_crowd(((1,), ((0, 0), (0, 0, 0))), [0, 1]), True)
        self.assertIs(is_crowd(((2,), ((0, 0), (0, 0, 0))), [0, 1]), False)

    def test_some_may_be_no_crowd_where_fewer_are_one(self):
        web = ((1, 9), ((0, 0), (0, 0), (0, 1)))
        self.assertIs(is_crowd(web, [0, 1]), True)
        self.assertIs(is_crowd(web, [0, 1, 2]), False)

    def test_all_sets_of_small_webs(self):
        for web in small_webs(80, 5) + EDGE_WEBS[:15]:
            for some in all_sets(len(web[1])):
                self.assertIs(is_crowd(web, some), crowd(web, some), (web, some))

    def test_rooms_far_above_nine(self):
        web = ((FARTHEST, 0), ((0, 1), (1, 1), (0, 0)))
        self.assertIs(is_crowd(web, [0, 1, 2]), False)
        self.assertIs(is_crowd(web, [1]), True)

    def test_own(self):
        web = ((1, 1), ((0, 1), (1, 0), (0, 0)))
        for some in ([], [0, 1], [0, 1, 2]):
            check_own(self, is_crowd, web, some)

    def test_asked_again_behind_a_change_of_the_list(self):
        web = ((1, 1), ((0, 1), (1, 0), (0, 0)))
        some = [0, 1]
        self.assertIs(is_crowd(web, some), False)
        some.append(2)
        self.assertIs(is_crowd(web, some), True)
        some.pop(0)
        self.assertIs(is_crowd(web, some), False)


class FittedTest(unittest.TestCase):
    def check(self, web):
        told = fitted(web)
        self.assertIs(told.__class__, tuple)
        self.assertEqual(len(told), 2)
        self.assertIn(told[0], ("fits", "crowd"))
        if told[0] == "fits":
            self.assertTrue(right_and_whole(web, told[1]), (web, told))
        else:
            self.assertTrue(rising(told[1], len(web[1])), (web, told))
            self.assertTrue(tight_crowd(web, told[1]), (web, told))
            self.assertIs(is_crowd(web, told[1]), True)
        return told[0]

    def test_small_webs_against_all_choices(self):
        words = []
        for web in small_webs(500) + EDGE_WEBS[:15]:
            word = self.check(web)
            self.assertEqual(word, "fits" if whole_layings(web) else "crowd", web)
            words.append(word)
        self.assertGreater(words.count("fits"), 100)
        self.assertGreater(words.count("crowd"), 100)

    def test_a_crowd_just_where_some_set_is_one(self):
        for web in small_webs(150, 5):
            crowds = [some for some in all_sets(len(web[1])) if crowd(web, some)]
            self.assertEqual(fitted(web)[0], "crowd" if crowds else "fits", web)

    def test_edges(self):
        self.assertEqual(fitted(((0,), ())), ("fits", []))
        self.assertEqual(fitted(((9,) * 10, ())), ("fits", []))
        self.assertEqual(fitted(((0,), ((0, 0),))), ("crowd", [0]))
        self.assertEqual(fitted(((1,), ((0, 0),))), ("fits", [0]))
        self.assertEqual(fitted(((1,), ((0, 0), (0, 0)))), ("crowd", [0, 1]))
        self.assertEqual(fitted(((0, 1), ((0, 1),))), ("fits", [1]))
        self.assertEqual(fitted(((0, 1), ((0, 0, 0), (0, 1)))), ("crowd", [0]))
        for web in EDGE_WEBS:
            self.check(web)

    def test_keys_must_be_pushed_on(self):
        # Each key could lie in nest 0; only the last has no other home.
        web = ((1, 1, 1, 1), ((0, 1), (1, 2), (2, 3), (0, 0)))
        self.assertEqual(fitted(web), ("fits", [1, 2, 3, 0]))

    def test_crowds_beside_keys_that_have_room(self):
        web = ((9, 1, 9), ((0, 2), (1, 1), (0, 0), (1, 1, 1), (2, 0)))
        self.assertEqual(fitted(web), ("crowd", [1, 3]))

    def test_the_third_home(self):
        self.assertEqual(fitted(((0, 0, 1), ((0, 1, 2),))), ("fits", [2]))
        self.assertEqual(fitted(((1, 1, 1), ((0, 0), (1, 1), (0, 1, 2)))), ("fits", [0, 1, 2]))

    def test_thirty_keys_in_ten_nests(self):
        words = [self.check(web) for web in great_webs(60)]
        self.assertGreater(words.count("fits"), 10)
        self.assertGreater(words.count("crowd"), 10)

    def test_thirty_keys_that_just_fit(self):
        for start in range(20):
            draw = Draw(start)
            places = draw.shuffled(list(range(10)) * 3)
            web = ((3,) * 10, tuple(tuple(draw.shuffled([nest, draw.below(10), draw.below(10)])) for nest in places))
            self.assertEqual(self.check(web), "fits")
            less_room = ((3,) * 9 + (2,), web[1])
            self.assertEqual(self.check(less_room), "crowd")

    def test_rooms_far_above_nine(self):
        self.assertEqual(fitted(((FAR, 0), ((0, 1),) * 30)), ("fits", [0] * 30))
        web = ((FARTHEST, 1, 10), ((0, 1), (1, 1), (2, 2), (1, 1)) + ((2, 2),) * 8)
        self.assertEqual(fitted(web), ("crowd", [1, 3]))
        self.assertEqual(self.check(((FARTHEST, 2, 10), web[1])), "fits")

    def test_somewhat_more_keys_and_nests(self):
        self.assertEqual(self.check(((3,) * 12, tuple((k % 12, (k + 1) % 12) for k in range(34)))), "fits")
        self.assertEqual(self.check(((2,) * 12, tuple((k % 12, (k + 1) % 12) for k in range(34)))), "crowd")

    def test_own(self):
        for web in (((1, 1), ((0, 1), (1, 1))), ((1, 1), ((0, 1), (1, 1), (0, 0))), ((1,), ())):
            check_own(self, fitted, web)


class TrimmedTest(unittest.TestCase):
    def test_least_first_written_out(self):
        # Any two of the four are a crowd: the two least are left out.
        self.assertEqual(trimmed(((1,), ((0, 0),) * 4), [0, 1, 2, 3]), [2, 3])
        self.assertEqual(trimmed(((1,), ((0, 0),) * 4), [0, 2, 3]), [2, 3])
        self.assertEqual(trimmed(((1,), ((0, 0),) * 4), [0, 1]), [0, 1])
        self.assertEqual(trimmed(((0,), ((0, 0),) * 3), [0, 1, 2]), [2])

    def test_a_key_needed_first_is_left_out_later(self):
        # Nest 1 stays a home without key 0, as long as key 1 is there.
        web = ((1, 1, 1), ((0, 1), (1, 2), (0, 0), (0, 0)))
        some = [0, 1, 2, 3]
        self.assertTrue(crowd(web, some))
        self.assertFalse(crowd(web, [1, 2, 3]))
        self.assertTrue(crowd(web, [0, 2, 3]))
        self.assertTrue(crowd(web, [2, 3]))
        self.assertEqual(trimmed(web, some), [2, 3])

    def test_all_crowds_of_small_webs_step_by_step(self):
        begun_anew = 0
        for web in small_webs(400) + EDGE_WEBS[:15]:
            for some in all_sets(len(web[1])):
                if crowd(web, some):
                    told = trimmed(web, some)
                    self.assertEqual(told, trimmed_by_steps(web, some), (web, some))
                    self.assertIs(told.__class__, list)
                    self.assertTrue(tight_crowd(web, told))
                    begun_anew += told != some
        self.assertGreater(begun_anew, 500)

    def test_thirty_keys(self):
        for web in great_webs(40):
            some = list(range(30))
            if crowd(web, some):
                self.assertEqual(trimmed(web, some), trimmed_by_steps(web, some))

    def test_just_one_key_more_than_room(self):
        for web in small_webs(200):
            some = list(range(len(web[1])))
            if crowd(web, some):
                told = trimmed(web, some)
                room = sum(web[0][nest] for nest in range(len(web[0])) if any(nest in web[1][key] for key in told))
                self.assertEqual(len(told), room + 1)

    def test_rooms_far_above_nine(self):
        web = ((FAR, 11, 0), ((1, 1),) * 13 + ((0, 2), (2, 2), (1, 2)))
        self.assertEqual(trimmed(web, list(range(13))), list(range(1, 13)))
        self.assertEqual(trimmed(web, [14]), [14])
        # Key 14 is a crowd by itself, but one key at a time is left out, and behind two of them none can be.
        self.assertEqual(trimmed(web, list(range(12)) + [14, 15]), list(range(2, 12)) + [14, 15])

    def test_own(self):
        web = ((1, 1), ((0, 1), (1, 1), (0, 0), (0, 1)))
        check_own(self, trimmed, web, [0, 1, 2, 3])
        check_own(self, trimmed, web, [0, 1, 2])

    def test_what_is_told_is_another_list(self):
        web = ((1,), ((0, 0), (0, 0)))
        some = [0, 1]
        self.assertIsNot(trimmed(web, some), some)

    def test_asked_again_behind_a_change_of_the_list(self):
        web = ((1,), ((0, 0),) * 4)
        some = [0, 1]
        self.assertEqual(trimmed(web, some), [0, 1])
        some.append(3)
        self.assertEqual(trimmed(web, some), [1, 3])


class DrawnWebsTest(unittest.TestCase):
    def test_they_are_the_same_each_time(self):
        self.assertEqual(small_webs(20), small_webs(20))
        self.assertEqual(drawn_web(Draw(3), 4, 5, 2), drawn_web(Draw(3), 4, 5, 2))


if __name__ == "__main__":
    unittest.main()
