"""Promises 12, 13 and 14, and what promises 2, 3 and 11 say of pushes."""

import copy
import itertools
import unittest

from keynests.errors import NestError, NoPush
from keynests.fits import fitted, is_crowd
from keynests.pushes import pushed, put_in, within
from reckoning import (
    EDGE_WEBS, FAR, FARTHEST, Draw, all_layings, check_own, crowd, drawn_laying, fault_of_row, fewest_pushes,
    great_webs, homes_together, pushable, right, rising, room_together, small_webs, tight_webs)

# Keys 0, 1 and 2 lie; nest 3 has room.
WEB = ((1, 1, 1, 1), ((0, 1), (1, 2), (2, 3), (0, 0), (3, 1, 0)))
LAYING = [0, 1, 2, None, None]


class PushedTest(unittest.TestCase):
    def refused(self, web, laying, key, row, at):
        given = copy.deepcopy((web, laying, row))
        with self.assertRaises(NestError) as taken:
            pushed(web, laying, key, row)
        self.assertIs(taken.exception.__class__, NoPush, (web, laying, key, row))
        self.assertEqual(taken.exception.at, at, (web, laying, key, row))
        self.assertIs(taken.exception.at.__class__, int)
        self.assertEqual((web, laying, row), given)

    def test_one_tuple(self):
        self.assertEqual(pushed(WEB, LAYING, 4, [(4, 3)]), [0, 1, 2, None, 3])
        self.assertEqual(pushed(((1,), ((0, 0),)), [None], 0, [(0, 0)]), [0])

    def test_several_tuples(self):
        self.assertEqual(pushed(WEB, LAYING, 3, [(3, 0), (0, 1), (1, 2), (2, 3)]), [1, 2, 3, 0, None])
        self.assertEqual(pushed(WEB, LAYING, 4, [(4, 1), (1, 2), (2, 3)]), [0, 2, 3, None, 1])

    def test_longer_than_it_need_be(self):
        self.assertEqual(pushed(WEB, LAYING, 4, [(4, 0), (0, 1), (1, 2), (2, 3)]), [1, 2, 3, None, 0])

    def test_a_nest_that_stands_twice(self):
        web = ((2, 1, 1), ((0, 1), (0, 2), (1, 0), (0, 0)))
        # Key 0 leaves nest 0 for nest 1, key 2 leaves that for nest 0, and key 1 leaves nest 0 too.
        self.assertEqual(pushed(web, [0, 0, 1, None], 3, [(3, 0), (0, 1), (2, 0), (1, 2)]), [1, 2, 0, 0])

    def test_a_nest_that_stands_twice_as_the_last(self):
        web = ((2, 1), ((0, 1), (1, 0), (0, 0)))
        self.assertEqual(pushed(web, [0, 1, None], 2, [(2, 0), (0, 1), (1, 0)]), [1, 0, 0])

    def test_an_empty_row(self):
        self.refused(WEB, LAYING, 3, [], 0)
        self.refused(((9,), ((0, 0),)), [None], 0, [], 0)

    def test_another_first_key(self):
        self.refused(WEB, LAYING, 3, [(4, 3)], 0)
        self.refused(WEB, LAYING, 4, [(2, 3)], 0)
        self.refused(WEB, LAYING, 4, [(3, 0), (0, 1), (1, 2), (2, 3)], 0)

    def test_a_nest_that_is_no_home(self):
        self.refused(WEB, LAYING, 3, [(3, 3)], 0)
        self.refused(WEB, LAYING, 4, [(4, 2), (2, 3)], 0)
        self.refused(WEB, LAYING, 3, [(3, 0), (0, 3)], 1)
        self.refused(WEB, LAYING, 4, [(4, 0), (0, 1), (1, 3)], 2)

    def test_the_nest_in_which_the_key_lies(self):
        self.refused(WEB, LAYING, 3, [(3, 0), (0, 0)], 1)
        self.refused(WEB, LAYING, 3, [(3, 0), (0, 0), (0, 1)], 1)
        self.refused(((2,), ((0, 0), (0, 0))), [0, None], 1, [(1, 0), (0, 0)], 1)

    def test_a_key_that_does_not_lie_in_the_nest_ahead(self):
        self.refused(WEB, LAYING, 3, [(3, 0), (1, 2), (2, 3)], 1)
        self.refused(WEB, LAYING, 3, [(3, 0), (2, 3)], 1)
        self.refused(WEB, LAYING, 3, [(3, 0), (0, 1), (2, 3)], 2)
        # A key that lies nowhere.
        self.refused(WEB, LAYING, 3, [(3, 0), (4, 3)], 1)

    def test_a_key_pushed_there_only_just_now_does_not_lie_there(self):
        web = ((1, 1, 1), ((0, 1, 2), (0, 1)))
        self.refused(web, [0, None], 1, [(1, 0), (0, 1), (0, 2)], 2)

    def test_a_key_twice(self):
        # Key 0 lies in nest 0, to which key 1 comes a second time.
        web = ((1, 1, 1), ((0, 1, 2), (1, 0), (0, 0)))
        self.refused(web, [0, 1, None], 2, [(2, 0), (0, 1), (1, 0), (0, 2)], 3)
        self.refused(WEB, LAYING, 4, [(4, 3), (4, 1)], 1)

    def test_numbers_of_no_key(self):
        for key in (-1, -2, -5, 5, 6, FAR, -FAR, FARTHEST):
            self.refused(WEB, LAYING, 4, [(key, 3)], 0)
            self.refused(WEB, LAYING, 4, [(4, 3), (key, 3)], 1)
            self.refused(WEB, LAYING, 3, [(3, 0), (0, 1), (key, 2)], 2)

    def test_a_key_numbered_from_the_end_is_none(self):
        # By Python's own reckoning from the end key -4 would be key 1, and -1 key 4.
        self.refused(WEB, LAYING, 3, [(3, 0), (0, 1), (-4, 2), (2, 3)], 2)
        self.refused(WEB, LAYING, 4, [(-1, 3)], 0)
        # The last key does lie in the nest ahead, but -1 is not its number.
        web = ((1, 1), ((0, 0), (0, 1)))
        self.assertEqual(pushed(web, [None, 0], 0, [(0, 0), (1, 1)]), [0, 1])
        self.refused(web, [None, 0], 0, [(0, 0), (-1, 1)], 1)
        self.refused(web, [None, 0], 0, [(-2, 0), (1, 1)], 0)

    def test_numbers_of_no_nest(self):
        for nest in (-1, -2, -4, 4, 5, FAR, -FAR, FARTHEST):
            self.refused(WEB, LAYING, 4, [(4, nest)], 0)
            self.refused(WEB, LAYING, 3, [(3, 0), (0, nest)], 1)
            self.refused(WEB, LAYING, 3, [(3, 0), (0, nest), (1, 2)], 1)

    def test_a_last_nest_without_room(self):
        self.refused(WEB, LAYING, 3, [(3, 0)], 1)
        self.refused(WEB, LAYING, 3, [(3, 0), (0, 1)], 2)
        self.refused(WEB, LAYING, 3, [(3, 0), (0, 1), (1, 2)], 3)
        self.refused(WEB, LAYING, 4, [(4, 0)], 1)
        self.refused(((0,), ((0, 0),)), [None], 0, [(0, 0)], 1)
        # Room in a nest on the way is of no use.
        web = ((2, 0), ((0, 1), (0, 0)))
        self.refused(web, [0, None], 1, [(1, 0), (0, 1)], 2)

    def test_the_first_that_is_amiss(self):
        self.refused(WEB, LAYING, 3, [(3, 0), (0, 3), (9, 9)], 1)
        self.refused(WEB, LAYING, 3, [(9, 9), (9, 9)], 0)
        self.refused(WEB, LAYING, 3, [(3, 0), (9, 9)], 1)

    def test_rooms_far_above_nine(self):
        web = ((FAR, 10), ((0, 1),) * 12)
        laying = [1] * 10 + [0, None]
        self.assertEqual(pushed(web, laying, 11, [(11, 0)]), [1] * 10 + [0, 0])
        self.assertEqual(pushed(web, laying, 11, [(11, 1), (3, 0)]), [1] * 3 + [0] + [1] * 6 + [0, 1])
        self.refused(web, laying, 11, [(11, 1)], 1)

    def test_all_rows_of_up_to_three_tuples(self):
        taken = 0
        for web in [((1, 1), ((0, 1), (1, 0), (0, 0))), ((2, 1), ((0, 1), (0, 1), (1, 1))), ((1, 1, 1), ((0, 1), (1, 2)))]:
            pushes = list(itertools.product(range(-1, len(web[1]) + 1), range(-1, len(web[0]) + 1)))
            for laying in [laying for laying in all_layings(web) if None in laying][::3]:
                for key in [laying.index(None)]:
                    for size in range(4):
                        for row in itertools.product(pushes, repeat=size):
                            taken += self.check_row(web, laying, key, list(row))
        self.assertGreater(taken, 10)

    def check_row(self, web, laying, key, row):
        at = fault_of_row(web, laying, key, row)
        if at is not None:
            self.refused(web, laying, key, row, at)
            return 0
        behind = list(laying)
        for one, nest in row:
            behind[one] = nest
        told = pushed(web, laying, key, row)
        self.assertEqual(told, behind, (web, laying, key, row))
        self.assertTrue(right(web, told))
        return 1

    def test_rows_put_together_by_drawing(self):
        taken = 0
        for start, web in enumerate(small_webs(300) + tight_webs(600)):
            draw = Draw(start)
            laying = drawn_laying(draw, web)
            for key in [key for key, nest in enumerate(laying) if nest is None]:
                row = [(key, draw.one_of(web[1][key]))]
                while draw.below(4):
                    there = [other for other, nest in enumerate(laying) if nest == row[-1][1]]
                    if not there:
                        break
                    other = draw.one_of(there)
                    row.append((other, draw.one_of(web[1][other])))
                taken += self.check_row(web, laying, key, row)
        self.assertGreater(taken, 200)

    def test_own(self):
        check_own(self, pushed, WEB, list(LAYING), 3, [(3, 0), (0, 1), (1, 2), (2, 3)])
        check_own(self, pushed, WEB, list(LAYING), 4, [(4, 3)])

    def test_it_tells_another_list(self):
        laying = [None]
        told = pushed(((1,), ((0, 0),)), laying, 0, [(0, 0)])
        self.assertIsNot(told, laying)
        self.assertEqual(laying, [None])

    def test_asked_again_behind_a_change_of_the_lists(self):
        laying, row = list(LAYING), [(4, 3)]
        self.assertEqual(pushed(WEB, laying, 4, row), [0, 1, 2, None, 3])
        row[0] = (4, 1)
        self.refused(WEB, laying, 4, row, 1)
        laying[1] = None
        self.assertEqual(pushed(WEB, laying, 4, row), [0, None, 2, None, 1])


class PutInTest(unittest.TestCase):
    def check(self, web, laying, key):
        told = put_in(web, laying, key)
        self.assertIs(told.__class__, tuple)
        self.assertEqual(len(told), 2)
        self.assertIs(told[1].__class__, list)
        fewest = fewest_pushes(web, laying, key)
        if fewest is None:
            self.assertEqual(told, ("full", pushable(web, laying, key)), (web, laying, key))
            self.check_crowd(web, told[1], key)
        else:
            self.assertEqual(told[0], "put", (web, laying, key))
            self.assertEqual(len(told[1]), fewest, (web, laying, key, told))
            self.assertIsNone(fault_of_row(web, laying, key, told[1]), (web, laying, key, told))
            self.assertTrue(right(web, pushed(web, laying, key, told[1])))
            for push in told[1]:
                self.assertIs(push.__class__, tuple)
        return fewest

    def check_crowd(self, web, some, key):
        self.assertTrue(rising(some, len(web[1])))
        self.assertIn(key, some)
        self.assertIs(is_crowd(web, some), True)
        self.assertEqual(len(some), room_together(web, homes_together(web, some)) + 1)

    def test_all_layings_of_small_webs(self):
        counts = {}
        for web in small_webs(200, 5) + tight_webs(240) + EDGE_WEBS[:12]:
            for laying in all_layings(web):
                for key in range(len(laying)):
                    if laying[key] is None:
                        fewest = self.check(web, laying, key)
                        counts[fewest] = counts.get(fewest, 0) + 1
        for fewest in (None, 1, 2, 3):
            self.assertGreater(counts.get(fewest, 0), 20, counts)

    def test_no_shorter_row_among_all(self):
        for web in small_webs(150, 5) + tight_webs(60):
            for laying in all_layings(web):
                for key in [key for key, nest in enumerate(laying) if nest is None]:
                    told = put_in(web, laying, key)
                    self.assertEqual(self.shortest(web, laying, key), len(told[1]) if told[0] == "put" else None)

    def shortest(self, web, laying, key):
        """By all rows there are: each goes on from a row ahead by a key that lies where that one ends."""
        rows = [[(key, nest)] for nest in web[1][key]]
        while rows:
            for row in rows:
                if fault_of_row(web, laying, key, row) is None:
                    return len(row)
            longer = [row + [(other, nest)] for row in rows for other in range(len(laying))
                      if laying[other] == row[-1][1] and other not in [push[0] for push in row]
                      for nest in web[1][other] if nest != laying[other]]
            rows = longer
        return None

    def test_a_row_just_where_the_key_and_all_that_lie_fit(self):
        for web in small_webs(150, 5) + tight_webs(60):
            for laying in all_layings(web):
                for key in [key for key, nest in enumerate(laying) if nest is None]:
                    together = [web[1][other] for other, nest in enumerate(laying) if nest is not None or other == key]
                    word = fitted((web[0], tuple(together)))[0]
                    self.assertEqual(put_in(web, laying, key)[0] == "put", word == "fits")

    def test_written_out(self):
        self.assertEqual(put_in(WEB, LAYING, 3), ("put", [(3, 0), (0, 1), (1, 2), (2, 3)]))
        self.assertEqual(put_in(WEB, LAYING, 4), ("put", [(4, 3)]))
        self.assertEqual(put_in(WEB, [0, 1, 2, None, 3], 3), ("full", [0, 1, 2, 3, 4]))
        self.assertEqual(put_in(WEB, [1, 2, 3, 0, None], 4), ("full", [0, 1, 2, 3, 4]))

    def test_home_twice(self):
        self.assertEqual(put_in(((1,), ((0, 0),)), [None], 0), ("put", [(0, 0)]))
        self.assertEqual(put_in(((1,), ((0, 0), (0, 0))), [0, None], 1), ("full", [0, 1]))
        self.assertEqual(put_in(((1, 1), ((0, 0), (1, 1, 1))), [0, None], 1), ("put", [(1, 1)]))
        self.assertEqual(put_in(((1, 1), ((0, 0, 1), (0, 0))), [0, None], 1), ("put", [(1, 0), (0, 1)]))

    def test_homes_without_room(self):
        self.assertEqual(put_in(((0,), ((0, 0),)), [None], 0), ("full", [0]))
        self.assertEqual(put_in(((0, 0, 5), ((0, 1), (2, 2))), [None, 2], 0), ("full", [0]))
        self.assertEqual(put_in(((0, 1), ((0, 1),)), [None], 0), ("put", [(0, 1)]))
        self.assertEqual(put_in(((0, 1), ((0, 1), (0, 1))), [1, None], 1), ("full", [0, 1]))
        self.assertEqual(put_in(((0, 1, 1), ((0, 1, 2), (0, 1))), [1, None], 1), ("put", [(1, 1), (0, 2)]))

    def test_others_that_lie_nowhere_are_not_pushed(self):
        self.assertEqual(put_in(((1,), ((0, 0), (0, 0), (0, 0))), [None, 0, None], 2), ("full", [1, 2]))

    def test_keys_out_of_reach_are_left_out(self):
        web = ((1, 1, 1), ((0, 1), (0, 1), (0, 0), (2, 2)))
        self.assertEqual(put_in(web, [0, 1, None, 2], 2), ("full", [0, 1, 2]))

    def test_keys_are_reached_through_a_nest_of_the_third_home(self):
        web = ((1, 1, 1, 1), ((0, 1, 2), (2, 3), (0, 0)))
        self.assertEqual(put_in(web, [0, 2, None], 2), ("put", [(2, 0), (0, 1)]))
        web = ((1, 0, 1, 1), ((0, 1, 2), (2, 3), (0, 0)))
        self.assertEqual(put_in(web, [0, 2, None], 2), ("put", [(2, 0), (0, 2), (1, 3)]))

    def test_a_long_row(self):
        # Each nest hands on to the next; only the last has room.
        keys = tuple((nest, nest + 1) for nest in range(9)) + ((0, 0),)
        laying = list(range(9)) + [None]
        row = [(9, 0)] + [(nest, nest + 1) for nest in range(9)]
        self.assertEqual(put_in(((1,) * 10, keys), laying, 9), ("put", row))
        self.assertEqual(put_in(((1,) * 9 + (0,), keys), laying, 9), ("full", list(range(10))))

    def test_thirty_keys(self):
        counts = {}
        for start, web in enumerate(great_webs(80)):
            laying = drawn_laying(Draw(start), web)
            for key in [key for key, nest in enumerate(laying) if nest is None]:
                fewest = self.check(web, laying, key)
                counts[fewest] = counts.get(fewest, 0) + 1
        self.assertGreater(len(counts), 2)

    def test_rooms_far_above_nine(self):
        web = ((FARTHEST, 10, 0), ((1, 0),) + ((1, 1),) * 9 + ((1, 2), (2, 2)))
        laying = [1] * 10 + [None, None]
        self.assertEqual(put_in(web, laying, 10), ("put", [(10, 1), (0, 0)]))
        self.assertEqual(put_in(web, laying, 11), ("full", [11]))
        self.check(((FAR, 10), ((0, 1),) * 12), [1] * 10 + [0, None], 11)

    def test_own(self):
        check_own(self, put_in, WEB, list(LAYING), 3)
        check_own(self, put_in, WEB, [0, 1, 2, None, 3], 3)

    def test_asked_again_behind_a_change_of_the_list(self):
        laying = list(LAYING)
        self.assertEqual(put_in(WEB, laying, 4), ("put", [(4, 3)]))
        laying[2] = 3
        self.assertEqual(put_in(WEB, laying, 4)[0], "put")
        self.assertEqual(len(put_in(WEB, laying, 4)[1]), 2)
        laying[3], laying[0] = 0, 1
        laying[1] = 2
        self.assertEqual(put_in(WEB, laying, 4), ("full", [0, 1, 2, 3, 4]))


class WithinTest(unittest.TestCase):
    def check(self, web, laying, key):
        fewest = fewest_pushes(web, laying, key)
        numbers = [-FARTHEST, -FAR, -2, -1, 0, 1, 2, 3, 4, 5, 30, FAR, FARTHEST]
        for number in numbers + ([] if fewest is None else [fewest - 1, fewest, fewest + 1]):
            told = within(web, laying, key, number)
            if fewest is None or number < fewest:
                self.assertIsNone(told, (web, laying, key, number))
            else:
                self.assertIs(told.__class__, list)
                self.assertLessEqual(len(told), number)
                self.assertIsNone(fault_of_row(web, laying, key, told), (web, laying, key, told))

    def test_written_out(self):
        row = [(3, 0), (0, 1), (1, 2), (2, 3)]
        for number in (4, 5, 30, FAR):
            self.assertEqual(within(WEB, LAYING, 3, number), row)
        for number in (3, 2, 1, 0, -1, -FAR):
            self.assertIsNone(within(WEB, LAYING, 3, number))
        self.assertEqual(within(WEB, LAYING, 4, 1), [(4, 3)])
        self.assertIsNone(within(WEB, LAYING, 4, 0))

    def test_where_there_is_no_row_at_all(self):
        for number in (-1, 0, 1, 5, FAR):
            self.assertIsNone(within(WEB, [0, 1, 2, None, 3], 3, number))

    def test_small_webs(self):
        for web in small_webs(80, 4) + EDGE_WEBS[:12]:
            for laying in all_layings(web):
                for key in [key for key, nest in enumerate(laying) if nest is None]:
                    self.check(web, laying, key)

    def test_thirty_keys(self):
        for start, web in enumerate(great_webs(30)):
            laying = drawn_laying(Draw(start), web)
            for key in [key for key, nest in enumerate(laying) if nest is None]:
                self.check(web, laying, key)

    def test_rooms_far_above_nine(self):
        self.check(((FAR, 10), ((0, 1),) * 10 + ((1, 1), (1, 1))), [1] * 10 + [None, None], 11)

    def test_own(self):
        check_own(self, within, WEB, list(LAYING), 3, 4)
        check_own(self, within, WEB, list(LAYING), 3, 3)


class CrowdsTest(unittest.TestCase):
    def test_what_is_refused_is_a_crowd_by_the_tests_own_reckoning(self):
        for web in small_webs(60, 4):
            for laying in all_layings(web):
                for key in [key for key, nest in enumerate(laying) if nest is None]:
                    told = put_in(web, laying, key)
                    self.assertEqual(told[0] == "full", crowd(web, pushable(web, laying, key)))


if __name__ == "__main__":
    unittest.main()
