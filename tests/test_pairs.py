"""Promises 15, 16 and 17, and what promises 2, 3 and 11 say of homes in pairs."""

import unittest

from keynests.errors import NestError, NoPairs
from keynests.fits import fitted
from keynests.pairs import on_rings, parts, ways, words
from reckoning import (
    EDGE_WEBS, FAR, FARTHEST, Draw, check_own, great_webs, pair_webs, small_webs, tight_webs, whole_layings)


def walked_parts(web):
    """A walk over joined nests: in each round the nests joined to one met before are met too."""
    told = []
    for start in range(len(web[0])):
        met = {start}
        while True:
            further = met | {nest for homes in web[1] if met & set(homes) for nest in homes}
            if further == met:
                break
            met = further
        part = (sorted(met), [key for key, homes in enumerate(web[1]) if set(homes) & met])
        if part not in told:
            told.append(part)
    return sorted(told)


def ring_keys(web):
    told = []
    for key, (one, other) in enumerate(web[1]):
        without = (web[0], tuple(homes for place, homes in enumerate(web[1]) if place != key))
        if any(one in nests and other in nests for nests, _ in walked_parts(without)):
            told.append(key)
    return told


def reckoned_words(web):
    told = []
    for nests, keys in walked_parts(web):
        told.append({-1: "tree", 0: "ring"}.get(len(keys) - len(nests), "over"))
    return told


class PartsTest(unittest.TestCase):
    def check(self, web):
        told = parts(web)
        self.assertEqual(told, walked_parts(web), web)
        self.assertIs(told.__class__, list)
        self.assertEqual(told, sorted(told))
        for part in told:
            self.assertIs(part.__class__, tuple)
            self.assertEqual([thing.__class__ for thing in part], [list, list])
            self.assertEqual(part, (sorted(set(part[0])), sorted(set(part[1]))))
        self.assertEqual(sorted(sum([part[0] for part in told], [])), list(range(len(web[0]))))
        self.assertEqual(sorted(sum([part[1] for part in told], [])), list(range(len(web[1]))))

    def test_written_out(self):
        web = ((1,) * 6, ((4, 1), (2, 2), (1, 0), (5, 2)))
        self.assertEqual(parts(web), [([0, 1, 4], [0, 2]), ([2, 5], [1, 3]), ([3], [])])

    def test_no_keys_at_all(self):
        self.assertEqual(parts(((4,), ())), [([0], [])])
        self.assertEqual(parts(((1, 0, 2), ())), [([0], []), ([1], []), ([2], [])])

    def test_a_nest_that_is_no_home(self):
        self.assertEqual(parts(((1, 1, 1), ((0, 2),))), [([0, 2], [0]), ([1], [])])

    def test_homes_alike(self):
        self.assertEqual(parts(((1, 1), ((1, 1), (0, 0), (1, 1)))), [([0], [1]), ([1], [0, 2])])
        self.assertEqual(parts(((1, 1), ((1, 1, 1),))), [([0], []), ([1], [0])])

    def test_keys_of_three_homes_join_all_three(self):
        self.assertEqual(parts(((1,) * 5, ((0, 2, 4),))), [([0, 2, 4], [0]), ([1], []), ([3], [])])
        self.assertEqual(parts(((1,) * 5, ((0, 0, 4), (3, 1, 1)))), [([0, 4], [0]), ([1, 3], [1]), ([2], [])])
        self.assertEqual(parts(((1,) * 4, ((0, 1), (2, 3), (3, 3, 0)))), [([0, 1, 2, 3], [0, 1, 2])])

    def test_joined_by_many_steps(self):
        keys = tuple((nest, nest + 1) for nest in range(9))
        self.assertEqual(parts(((1,) * 10, keys)), [(list(range(10)), list(range(9)))])
        self.assertEqual(parts(((1,) * 10, keys[::-1])), [(list(range(10)), list(range(9)))])
        shuffled = tuple((k * 3 % 10, (k + 1) * 3 % 10) for k in range(9))
        self.assertEqual(parts(((0,) * 10, shuffled)), [(list(range(10)), list(range(9)))])

    def test_rooms_do_not_matter(self):
        keys = ((0, 1), (2, 2, 3))
        for rooms in ((0, 0, 0, 0), (1, 1, 1, 1), (2, 9, 0, 1), (FAR, FARTHEST, 10, 0)):
            self.assertEqual(parts((rooms, keys)), [([0, 1], [0]), ([2, 3], [1])])

    def test_against_the_tests_own_walk(self):
        for web in small_webs(300) + tight_webs(100) + pair_webs(300) + great_webs(20) + EDGE_WEBS:
            self.check(web)

    def test_few_keys_among_ten_nests(self):
        for start in range(100):
            draw = Draw(start)
            self.check(((1,) * 10, tuple((draw.below(10), draw.below(10)) for _ in range(draw.below(12)))))

    def test_own(self):
        check_own(self, parts, ((1,) * 6, ((4, 1), (2, 2), (1, 0), (5, 2))))
        check_own(self, parts, ((1,), ()))


NO_PAIRS = [
    ((0,), ()),
    ((2,), ()),
    ((1, 1, 0), ((0, 1),)),
    ((2, 1), ((0, 1),)),
    ((1, 2), ((0, 1),)),
    ((1, 10), ((0, 1),)),
    ((1, FAR), ((0, 1),)),
    ((FARTHEST, 1), ()),
    ((1, 1, 1), ((0, 1, 2),)),
    ((1, 1, 1), ((0, 1), (0, 1, 1))),
    ((1, 1, 1), ((0, 0, 0), (0, 1))),
    ((1, 1, 1), ((0, 1), (1, 2), (2, 2, 2), (0, 1))),
    ((9,) * 10, ((0, 1, 2),) * 30),
]


class NoPairsTest(unittest.TestCase):
    def test_refused(self):
        for web in NO_PAIRS:
            for function in (words, on_rings, ways):
                with self.assertRaises(NestError, msg=(function, web)) as taken:
                    function(web)
                self.assertIs(taken.exception.__class__, NoPairs)

    def test_parts_are_told_of_such_webs_too(self):
        for web in NO_PAIRS:
            self.assertEqual(parts(web), walked_parts(web))

    def test_webs_of_pairs_are_not_refused(self):
        for web in [((1,), ()), ((1,) * 10, ()), ((1,), ((0, 0),)), ((1,) * 10, ((0, 9),) * 30)]:
            for function in (words, on_rings, ways):
                function(web)


class WordsTest(unittest.TestCase):
    def test_trees(self):
        self.assertEqual(words(((1,), ())), ["tree"])
        self.assertEqual(words(((1, 1), ())), ["tree", "tree"])
        self.assertEqual(words(((1, 1), ((0, 1),))), ["tree"])
        self.assertEqual(words(((1,) * 4, ((0, 1), (0, 2), (0, 3)))), ["tree"])

    def test_rings(self):
        self.assertEqual(words(((1,), ((0, 0),))), ["ring"])
        self.assertEqual(words(((1, 1), ((0, 1), (1, 0)))), ["ring"])
        self.assertEqual(words(((1,) * 4, ((0, 1), (1, 2), (2, 0), (0, 3)))), ["ring"])

    def test_over(self):
        self.assertEqual(words(((1,), ((0, 0), (0, 0)))), ["over"])
        self.assertEqual(words(((1, 1), ((0, 1),) * 3)), ["over"])
        self.assertEqual(words(((1, 1), ((0, 1), (0, 0), (1, 1)))), ["over"])
        self.assertEqual(words(((1,) * 10, ((0, 9),) * 30)), ["over"] + ["tree"] * 8)

    def test_all_three_in_the_order_of_the_parts(self):
        web = ((1,) * 5, ((4, 4), (0, 3), (4, 4), (1, 1)))
        self.assertEqual(parts(web), [([0, 3], [1]), ([1], [3]), ([2], []), ([4], [0, 2])])
        self.assertEqual(words(web), ["tree", "ring", "tree", "over"])

    def test_drawn_webs(self):
        met = set()
        for web in pair_webs(600):
            told = words(web)
            self.assertIs(told.__class__, list)
            self.assertEqual(told, reckoned_words(web), web)
            self.assertEqual("over" not in told, fitted(web)[0] == "fits", web)
            self.assertEqual("over" not in told, bool(whole_layings(web)), web)
            met.update(told)
        self.assertEqual(met, {"tree", "ring", "over"})

    def test_own(self):
        check_own(self, words, ((1,) * 5, ((4, 4), (0, 3), (4, 4), (1, 1))))


class OnRingsTest(unittest.TestCase):
    def test_none(self):
        self.assertEqual(on_rings(((1,), ())), [])
        self.assertEqual(on_rings(((1, 1), ((0, 1),))), [])
        self.assertEqual(on_rings(((1,) * 4, ((0, 1), (1, 2), (1, 3)))), [])

    def test_homes_alike(self):
        self.assertEqual(on_rings(((1,), ((0, 0),))), [0])
        self.assertEqual(on_rings(((1, 1), ((0, 1), (1, 1)))), [1])

    def test_the_same_two_homes(self):
        self.assertEqual(on_rings(((1, 1), ((0, 1), (0, 1)))), [0, 1])
        self.assertEqual(on_rings(((1, 1), ((0, 1), (1, 0)))), [0, 1])

    def test_rings_of_three_and_more(self):
        self.assertEqual(on_rings(((1,) * 3, ((0, 1), (1, 2), (2, 0)))), [0, 1, 2])
        for many in range(3, 11):
            keys = tuple((k, (k + 1) % many) for k in range(many))
            self.assertEqual(on_rings(((1,) * many, keys)), list(range(many)))
            self.assertEqual(on_rings(((1,) * many, keys[:-1])), [])

    def test_keys_that_hang_on_a_ring(self):
        web = ((1,) * 5, ((3, 0), (0, 1), (1, 2), (4, 3), (2, 0)))
        self.assertEqual(on_rings(web), [1, 2, 4])

    def test_a_part_that_is_over(self):
        self.assertEqual(on_rings(((1, 1), ((0, 1),) * 3)), [0, 1, 2])
        # Two rings, and a key between them that is on none.
        web = ((1,) * 4, ((0, 1), (0, 1), (1, 2), (2, 3), (3, 2)))
        self.assertEqual(words(web), ["over"])
        self.assertEqual(on_rings(web), [0, 1, 3, 4])

    def test_drawn_webs(self):
        for web in pair_webs(600):
            told = on_rings(web)
            self.assertIs(told.__class__, list)
            self.assertEqual(told, ring_keys(web), web)

    def test_own(self):
        check_own(self, on_rings, ((1,) * 5, ((3, 0), (0, 1), (1, 2), (4, 3), (2, 0))))


class WaysTest(unittest.TestCase):
    def test_no_keys(self):
        self.assertEqual(ways(((1,), ())), 1)
        self.assertEqual(ways(((1,) * 10, ())), 1)

    def test_trees(self):
        self.assertEqual(ways(((1, 1), ((0, 1),))), 2)
        self.assertEqual(ways(((1,) * 3, ((0, 1), (1, 2)))), 3)
        self.assertEqual(ways(((1,) * 4, ((0, 1), (2, 3)))), 4)
        self.assertEqual(ways(((1,) * 10, tuple((k, k + 1) for k in range(9)))), 10)
        self.assertEqual(ways(((1,) * 9, ((0, 1), (1, 2), (3, 4), (4, 5), (6, 7), (7, 8)))), 27)

    def test_rings(self):
        self.assertEqual(ways(((1,) * 3, ((0, 1), (1, 2), (2, 0)))), 2)
        self.assertEqual(ways(((1,) * 2, ((0, 1), (1, 0)))), 2)
        self.assertEqual(ways(((1,) * 4, ((0, 1), (1, 0), (2, 3), (2, 3)))), 4)
        self.assertEqual(ways(((1,) * 4, ((0, 1), (1, 0), (2, 0), (2, 3)))), 2)

    def test_a_ring_on_which_just_one_key_is(self):
        self.assertEqual(ways(((1,), ((0, 0),))), 1)
        self.assertEqual(ways(((1, 1), ((0, 0), (1, 0)))), 1)
        self.assertEqual(ways(((1,) * 10, tuple((k, k) for k in range(10)))), 1)
        self.assertEqual(ways(((1,) * 5, ((0, 0), (1, 0), (2, 3), (3, 4)))), 3)

    def test_a_web_that_does_not_fit(self):
        self.assertEqual(ways(((1,), ((0, 0), (0, 0)))), 0)
        self.assertEqual(ways(((1,) * 4, ((0, 0), (0, 0), (1, 2), (2, 3)))), 0)
        self.assertEqual(ways(((1,) * 10, ((0, 1),) * 30)), 0)

    def test_all_choices_of_small_webs(self):
        met = set()
        for web in pair_webs(600):
            told = ways(web)
            self.assertIs(told.__class__, int)
            self.assertEqual(told, len(whole_layings(web)), web)
            met.add(told)
        self.assertGreater(len(met), 6)


if __name__ == "__main__":
    unittest.main()
