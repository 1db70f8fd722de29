"""Promises 18 and 19, and what promises 2, 3 and 11 say of where keys may lie."""

import unittest

from keynests.errors import NestError, NoFit
from keynests.fits import fitted
from keynests.layings import fault, is_whole
from keynests.lies import may_lie, places
from reckoning import (
    EDGE_WEBS, FAR, FARTHEST, check_own, great_webs, homes_together, pair_webs, right_and_whole, rising, room_together,
    small_webs, spoil, tight_crowd, tight_webs, whole_layings)

SMALL = small_webs(250) + tight_webs(150) + pair_webs(100) + EDGE_WEBS[:15]


class MayLieTest(unittest.TestCase):
    def check(self, web, key, nest):
        told = may_lie(web, key, nest)
        self.assertIs(told.__class__, tuple)
        self.assertEqual(len(told), 2)
        self.assertIs(told[1].__class__, list)
        if told[0] == "lies":
            self.assertTrue(right_and_whole(web, told[1]), (web, key, nest, told))
            self.assertIsNone(fault(web, told[1]))
            self.assertIs(is_whole(told[1]), True)
            self.assertEqual(told[1][key], nest, (web, key, nest, told))
        else:
            self.assertEqual(told[0], "never")
            self.check_never(web, key, nest, told[1])
        return told[0]

    def check_never(self, web, key, nest, some):
        if web[0][nest] == 0:
            self.assertEqual(some, [], (web, key, nest))
            return
        self.assertTrue(rising(some, len(web[1])), (web, key, nest, some))
        self.assertNotIn(key, some)
        nests = homes_together(web, some)
        room = room_together(web, nests) - (nest in nests)
        self.assertGreater(len(some), room, (web, key, nest, some))

    def test_every_key_and_home_of_small_webs(self):
        words = []
        for web in SMALL:
            layings = whole_layings(web)
            for key, homes in enumerate(web[1]):
                for nest in homes:
                    word = self.check(web, key, nest)
                    found = any(laying[key] == nest for laying in layings)
                    self.assertEqual(word, "lies" if found else "never", (web, key, nest))
                    words.append((word, bool(layings)))
        self.assertGreater(words.count(("lies", True)), 300)
        self.assertGreater(words.count(("never", True)), 100)
        self.assertGreater(words.count(("never", False)), 300)

    def test_written_out(self):
        web = ((1, 1), ((0, 1), (1, 1)))
        self.assertEqual(may_lie(web, 0, 0), ("lies", [0, 1]))
        self.assertEqual(may_lie(web, 0, 1), ("never", [1]))
        self.assertEqual(may_lie(web, 1, 1), ("lies", [0, 1]))

    def test_no_room(self):
        self.assertEqual(may_lie(((0,), ((0, 0),)), 0, 0), ("never", []))
        self.assertEqual(may_lie(((0, 1), ((0, 1),)), 0, 0), ("never", []))
        self.assertEqual(may_lie(((0, 1), ((0, 1),)), 0, 1), ("lies", [1]))
        # The web doesn't fit, but it is the nest's room that is told of.
        self.assertEqual(may_lie(((0, 1), ((0, 1), (1, 1), (1, 1))), 0, 0), ("never", []))

    def test_the_key_alone(self):
        self.assertEqual(may_lie(((1,), ((0, 0),)), 0, 0), ("lies", [0]))
        self.assertEqual(may_lie(((1, 1, 1), ((0, 1, 2),)), 0, 2), ("lies", [2]))

    def test_webs_that_do_not_fit_at_all(self):
        web = ((1, 1), ((0, 0), (1, 1), (1, 1), (0, 1)))
        for key, nest in ((0, 0), (1, 1), (2, 1), (3, 0), (3, 1)):
            self.assertEqual(self.check(web, key, nest), "never")
        web = ((1, 9), ((0, 0), (0, 0), (1, 1)))
        self.assertEqual(may_lie(web, 2, 1), ("never", [0, 1]))

    def test_homes_alike(self):
        self.assertEqual(may_lie(((1, 1), ((0, 0), (0, 1))), 0, 0), ("lies", [0, 1]))
        self.assertEqual(may_lie(((1, 1), ((0, 0), (0, 1))), 1, 0), ("never", [0]))
        self.assertEqual(may_lie(((1, 1), ((0, 0, 0), (1, 0, 1))), 1, 1), ("lies", [0, 1]))

    def test_rooms_far_above_nine(self):
        web = ((FAR, 10, FARTHEST), ((0, 1),) + ((1, 1),) * 10 + ((1, 2, 0),))
        self.assertEqual(self.check(web, 0, 0), "lies")
        self.assertEqual(may_lie(web, 0, 1), ("never", list(range(1, 11))))
        self.assertEqual(self.check(web, 11, 2), "lies")
        self.assertEqual(self.check(web, 11, 0), "lies")
        self.assertEqual(self.check(web, 11, 1), "never")

    def test_thirty_keys(self):
        for web in great_webs(12):
            for key, homes in enumerate(web[1]):
                for nest in homes:
                    self.check(web, key, nest)

    def test_thirty_keys_that_just_fit(self):
        web = ((3,) * 10, tuple((k % 10, (k + 1 + k // 10) % 10) for k in range(30)))
        words = [self.check(web, key, nest) for key, homes in enumerate(web[1]) for nest in homes]
        self.assertEqual(words, ["lies"] * 60)

    def test_own(self):
        web = ((1, 1), ((0, 1), (1, 1)))
        check_own(self, may_lie, web, 0, 0)
        check_own(self, may_lie, web, 0, 1)
        check_own(self, may_lie, ((0,), ((0, 0),)), 0, 0)


class PlacesTest(unittest.TestCase):
    def refused(self, web):
        with self.assertRaises(NestError) as taken:
            places(web)
        self.assertIs(taken.exception.__class__, NoFit)
        self.assertTrue(rising(taken.exception.some, len(web[1])))
        self.assertTrue(tight_crowd(web, taken.exception.some), (web, taken.exception.some))
        return taken.exception

    def test_small_webs_against_all_layings(self):
        told_of = 0
        for web in SMALL:
            layings = whole_layings(web)
            if not layings:
                self.refused(web)
                continue
            told = places(web)
            self.assertIs(told.__class__, list)
            expected = [sorted({laying[key] for laying in layings}) for key in range(len(web[1]))]
            self.assertEqual(told, expected, web)
            told_of += 1
        self.assertGreater(told_of, 150)

    def test_a_web_without_keys(self):
        self.assertEqual(places(((0,), ())), [])
        self.assertEqual(places(((9,) * 10, ())), [])

    def test_written_out(self):
        self.assertEqual(places(((1, 1), ((0, 1), (1, 1)))), [[0], [1]])
        self.assertEqual(places(((1, 1), ((0, 1), (1, 0)))), [[0, 1], [0, 1]])
        self.assertEqual(places(((2, 0, 1), ((1, 0), (0, 2, 1), (2, 2)))), [[0], [0], [2]])

    def test_homes_alike_are_told_once(self):
        self.assertEqual(places(((2, 1), ((0, 0), (1, 0, 1)))), [[0], [0, 1]])
        self.assertEqual(places(((3, 3), ((1, 1, 1), (1, 0, 0)))), [[1], [0, 1]])

    def test_refused_written_out(self):
        self.assertEqual(self.refused(((0,), ((0, 0),))).some, [0])
        self.assertEqual(self.refused(((9, 1), ((0, 1), (1, 1), (0, 0), (1, 1)))).some, [1, 3])

    def test_thirty_keys_agree_with_may_lie(self):
        told_of = 0
        for web in great_webs(24):
            if fitted(web)[0] == "crowd":
                self.refused(web)
                continue
            told_of += 1
            for key, nests in enumerate(places(web)):
                found = [nest for nest in sorted(set(web[1][key])) if may_lie(web, key, nest)[0] == "lies"]
                self.assertEqual(nests, found)
        self.assertGreater(told_of, 5)

    def test_rooms_far_above_nine(self):
        web = ((FAR, 10, FARTHEST), ((0, 1),) + ((1, 1),) * 10 + ((1, 2, 0),))
        self.assertEqual(places(web), [[0]] + [[1]] * 10 + [[0, 2]])
        self.assertEqual(self.refused(((FAR, 0), ((0, 0), (1, 1)))).some, [1])

    def test_own(self):
        check_own(self, places, ((2, 1), ((0, 0), (1, 0, 1))))
        check_own(self, places, ((1, 1), ((0, 1), (1, 1))))

    def test_the_value_of_a_refusal_is_the_askers_own(self):
        web = ((9, 1), ((0, 1), (1, 1), (0, 0), (1, 1)))
        spoil(self.refused(web).some)
        self.assertEqual(self.refused(web).some, [1, 3])
        self.assertEqual(fitted(web), ("crowd", [1, 3]))


if __name__ == "__main__":
    unittest.main()
