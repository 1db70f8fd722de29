"""Promise 5, what promise 2 says of webs, and promise 11 as far as it speaks of homes and room together."""

import unittest

from keynests.rules import homes, rule_of
from keynests.webs import homes_of, is_web, room_of, web_of

TWO_WAYS = ((3, 5), (77, 10006))
THREE_WAYS = ((1, 0), (0, 10006), (2, 3))
FAR = 10 ** 59
NO_NUMBERS = [True, False, None, "1", "", 1.0, 1.5, [1], (1,), {}, object()]
OTHER_KINDS = [None, True, False, 0, 1, -1, 2, FAR, 1.0, "", "1,2; a b", b"12", [], {}, {0: 1}, set(), (), object(), len]


class WebOfTest(unittest.TestCase):
    def test_no_keys(self):
        self.assertEqual(web_of(((1, 2, 0), TWO_WAYS), []), ((1, 2, 0), ()))

    def test_one_key_written_out(self):
        self.assertEqual(web_of(((1, 2, 0), TWO_WAYS), [10006]), ((1, 2, 0), ((2, 2),)))

    def test_keys_in_order_some_alike(self):
        rule = rule_of((1,) * 10, THREE_WAYS)
        told = web_of(rule, [9, 0, 9, 10007, 10010])
        self.assertEqual(told, ((1,) * 10, ((9, 6, 1), (0, 6, 3), (9, 6, 1), (0, 6, 3), (3, 6, 9))))

    def test_thirty_keys(self):
        keys = [k * k * 1009 + 7 for k in range(28)] + [10 ** 60 - 1, 7]
        for ways in (TWO_WAYS, THREE_WAYS):
            rule = rule_of((0, 9, 4, 1, 1, 2, 3), ways)
            told = web_of(rule, keys)
            self.assertEqual(told, ((0, 9, 4, 1, 1, 2, 3), tuple(homes(rule, key) for key in keys)))
            self.assertEqual(len(told[1]), 30)
            self.assertIs(is_web(told), True)

    def test_it_is_of_tuples_throughout(self):
        told = web_of(((1, 2, 0), THREE_WAYS), [4, 5])
        self.assertIsInstance(told, tuple)
        for part in told + told[1]:
            self.assertIsInstance(part, tuple)

    def test_somewhat_more_keys_are_not_refused(self):
        told = web_of(((1, 2, 0), TWO_WAYS), list(range(33)))
        self.assertEqual(len(told[1]), 33)
        self.assertIs(is_web(told), False)

    def test_the_list_is_unchanged_and_not_kept(self):
        rule = ((1,) * 10, THREE_WAYS)
        keys = [9, 0]
        told = web_of(rule, keys)
        self.assertEqual(keys, [9, 0])
        keys[0] = 5
        keys.append(3)
        self.assertEqual(told, ((1,) * 10, ((9, 6, 1), (0, 6, 3))))
        self.assertEqual(web_of(rule, [9, 0]), told)


class IsWebTest(unittest.TestCase):
    def test_webs(self):
        for web in [
            ((1, 2, 0), ()),
            ((0,), ()),
            ((9,) * 10, ()),
            ((0,), ((0, 0),)),
            ((1, 2, 0), ((0, 1), (2, 2, 0))),
            ((1, 2, 0), ((2, 2), (2, 2), (1, 1, 1))),
            ((1, 2, 0), ((0, 2),) * 29),
            ((1, 2, 0), ((0, 2),) * 30),
            ((1, 2, 0), ((0, 2, 1), (1, 1)) * 15),
            ((0, 1, 2, 3, 4, 5, 6, 7, 8, 9), ((0, 9), (9, 0, 9))),
        ]:
            self.assertIs(is_web(web), True, web)

    def test_wrong_rooms(self):
        for rooms in [(), (1,) * 11, (10,), (1, -1), (1, 10), (FAR, 1), (1, -FAR), [1, 2], "12", {1: 1}, range(2)]:
            self.assertIs(is_web((rooms, ())), False, rooms)
            self.assertIs(is_web((rooms, ((0, 0),))), False, rooms)
        for thing in NO_NUMBERS:
            self.assertIs(is_web(((thing,), ())), False, thing)
            self.assertIs(is_web(((1, thing), ((0, 0),))), False, thing)
        for thing in OTHER_KINDS:
            self.assertIs(is_web((thing, ())), False, thing)

    def test_homes_out_of_their_range(self):
        for nest in (-1, 3, 9, 10, FAR, -FAR):
            for key in ((nest, 0), (0, nest), (0, 0, nest), (nest, nest, nest)):
                self.assertIs(is_web(((1, 2, 0), (key,))), False, key)
                self.assertIs(is_web(((1, 2, 0), ((0, 1), key))), False, key)
        self.assertIs(is_web(((9,), ((0, 1),))), False)
        self.assertIs(is_web(((9,) * 10, ((0, 10),))), False)

    def test_homes_that_are_no_whole_numbers(self):
        for thing in NO_NUMBERS:
            for key in ((thing, 0), (0, thing), (0, 0, thing)):
                self.assertIs(is_web(((1, 2, 0), (key,))), False, key)

    def test_a_wrong_number_of_homes(self):
        for key in ((), (0,), (0, 1, 2, 0), (0,) * 5):
            self.assertIs(is_web(((1, 2, 0), (key,))), False, key)
            self.assertIs(is_web(((1, 2, 0), ((0, 1), key, (0, 1)))), False, key)

    def test_too_many_keys(self):
        self.assertIs(is_web(((1, 2, 0), ((0, 2),) * 31)), False)
        self.assertIs(is_web(((1, 2, 0), ((0, 2, 1),) * 60)), False)

    def test_lists_in_the_place_of_tuples(self):
        self.assertIs(is_web([(1, 2, 0), ((0, 1),)]), False)
        self.assertIs(is_web(([1, 2, 0], ((0, 1),))), False)
        self.assertIs(is_web(((1, 2, 0), [(0, 1)])), False)
        self.assertIs(is_web(((1, 2, 0), [])), False)
        self.assertIs(is_web(((1, 2, 0), ([0, 1],))), False)

    def test_a_part_more_or_less(self):
        self.assertIs(is_web(((1, 2, 0),)), False)
        self.assertIs(is_web(((1, 2, 0), ((0, 1),), ())), False)

    def test_other_kinds(self):
        for thing in OTHER_KINDS:
            self.assertIs(is_web(thing), False, thing)
            if thing != ():
                self.assertIs(is_web(((1, 2, 0), thing)), False, thing)
            self.assertIs(is_web(((1, 2, 0), (thing,))), False, thing)

    def test_parts_in_the_other_order(self):
        self.assertIs(is_web((((0, 1),), (1, 2, 0))), False)

    def test_a_widened_web_is_none(self):
        self.assertIs(is_web(((10, 2, 0), ((0, 1),))), False)
        self.assertIs(is_web(((1, 2, 40), ())), False)


WEB = ((1, 2, 0, 9, 4), ((4, 1), (3, 3), (1, 4, 0), (2, 3)))
WIDE = ((11, 2, 30, 9, 10 ** 40), ((4, 1), (3, 3), (1, 4, 0), (2, 3)))


class HomesOfTest(unittest.TestCase):
    def test_none_some_and_all(self):
        for web in (WEB, WIDE):
            self.assertEqual(homes_of(web, []), [])
            self.assertEqual(homes_of(web, [0]), [1, 4])
            self.assertEqual(homes_of(web, [1]), [3])
            self.assertEqual(homes_of(web, [2]), [0, 1, 4])
            self.assertEqual(homes_of(web, [0, 2]), [0, 1, 4])
            self.assertEqual(homes_of(web, [0, 3]), [1, 2, 3, 4])
            self.assertEqual(homes_of(web, [0, 1, 2, 3]), [0, 1, 2, 3, 4])

    def test_a_web_without_keys(self):
        self.assertEqual(homes_of(((1, 2), ()), []), [])

    def test_a_nest_that_is_no_home_is_left_out(self):
        self.assertEqual(homes_of(((1, 1, 1, 1), ((3, 1), (1, 1, 3))), [0, 1]), [1, 3])

    def test_ten_nests_rise(self):
        web = ((1,) * 10, ((9, 8), (7, 6), (5, 4, 3), (2, 1), (0, 9)))
        self.assertEqual(homes_of(web, [0, 1, 2, 3, 4]), list(range(10)))

    def test_somewhat_more_keys_are_not_refused(self):
        self.assertEqual(homes_of(((1, 1), ((0, 0),) * 32 + ((1, 1),)), [31, 32]), [0, 1])

    def test_what_is_handed_in_is_unchanged(self):
        some = [0, 2]
        homes_of(WEB, some)
        self.assertEqual(some, [0, 2])

    def test_what_is_told_is_the_askers_own(self):
        some = [0, 3]
        told = homes_of(WEB, some)
        some.append(1)
        self.assertEqual(told, [1, 2, 3, 4])
        told.append(77)
        told[0] = 55
        self.assertEqual(homes_of(WEB, [0, 3]), [1, 2, 3, 4])
        empty = homes_of(WEB, [])
        empty.append(5)
        self.assertEqual(homes_of(WEB, []), [])


class RoomOfTest(unittest.TestCase):
    def test_none_some_and_all(self):
        self.assertEqual(room_of(WEB, []), 0)
        self.assertEqual(room_of(WEB, [0]), 1)
        self.assertEqual(room_of(WEB, [2]), 0)
        self.assertEqual(room_of(WEB, [1, 3]), 11)
        self.assertEqual(room_of(WEB, [0, 1, 2, 3, 4]), 16)

    def test_rooms_above_nine(self):
        self.assertEqual(room_of(WIDE, []), 0)
        self.assertEqual(room_of(WIDE, [0]), 11)
        self.assertEqual(room_of(WIDE, [0, 2]), 41)
        self.assertEqual(room_of(WIDE, [0, 1, 2, 3, 4]), 10 ** 40 + 52)

    def test_a_web_without_keys(self):
        self.assertEqual(room_of(((9,) * 10, ()), list(range(10))), 90)

    def test_what_is_handed_in_is_unchanged(self):
        nests = [1, 3]
        room_of(WEB, nests)
        self.assertEqual(nests, [1, 3])


if __name__ == "__main__":
    unittest.main()
