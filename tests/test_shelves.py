"""Promises 21 and 22, and what promises 2 and 3 say of shelves."""

import unittest

from keynests.errors import Full, NestError, NoKey, Twice
from keynests.fits import fitted
from keynests.shelves import Shelf
from reckoning import (
    FAR, FARTHEST, Draw, drawn_rule, fault_of_row, fewest_pushes, homes_by, pushable, right_and_whole, spoil,
    tight_crowd, web_by)

# Three nests of room 1; key k has the homes k and k + 1, by threes.
ROUND = ((1, 1, 1), ((1, 0), (1, 1)))
# All keys have nest 0 alone as their home.
ONE = ((2,), ((1, 0), (1, 0)))
WIDE = ((9, 9, 9, 9), ((1, 0), (3, 1), (7, 2)))


def laying_on(shelf, keys):
    return [shelf.where(key) for key in keys]


class ShelfCase(unittest.TestCase):
    def check(self, shelf, rule, there):
        """All that is told of a shelf, where there tells the keys and the nest of each."""
        keys = sorted(there)
        self.assertEqual(shelf.all_there(), keys)
        self.assertEqual(laying_on(shelf, keys), [there[key] for key in keys])
        self.assertTrue(right_and_whole(web_by(rule, keys), laying_on(shelf, keys)), (rule, there))
        for nest, room in enumerate(rule[0]):
            lying = [key for key in keys if there[key] == nest]
            self.assertEqual(shelf.nest(nest), lying)
        self.assertEqual(shelf.left(), [room - len(shelf.nest(nest)) for nest, room in enumerate(rule[0])])
        self.assertTrue(all(room >= 0 for room in shelf.left()))
        self.assertEqual(shelf.rule(), rule)
        for key in keys:
            self.assertIs(shelf.has(key), True)

    def refusal(self, kind, deed, *given):
        with self.assertRaises(NestError) as taken:
            deed(*given)
        self.assertIs(taken.exception.__class__, kind)
        return taken.exception

    def put(self, shelf, rule, there, key):
        """Puts a key in and holds what is told against the test's own search; tells which word it was."""
        keys = sorted(there) + [key]
        if key in there:
            self.refusal(Twice, shelf.put, key)
            self.check(shelf, rule, there)
            return "twice"
        if len(there) == 30:
            self.assertEqual(self.refusal(Full, shelf.put, key).some, sorted(keys))
            self.check(shelf, rule, there)
            return "thirty"
        web, laying = web_by(rule, keys), [there[other] for other in keys[:-1]] + [None]
        fewest = fewest_pushes(web, laying, len(keys) - 1)
        if fewest is None:
            some = sorted(keys[place] for place in pushable(web, laying, len(keys) - 1))
            self.assertEqual(self.refusal(Full, shelf.put, key).some, some)
            self.assertIs(shelf.has(key), False)
            self.assertIsNone(shelf.where(key))
        else:
            row = shelf.put(key)
            self.check_row(web, laying, keys, row, fewest)
            there.update(row)
        self.check(shelf, rule, there)
        return "put" if fewest else "full"

    def check_row(self, web, laying, keys, row, fewest):
        self.assertIs(row.__class__, list)
        self.assertEqual(len(row), fewest)
        for push in row:
            self.assertIs(push.__class__, tuple)
        places = [(keys.index(key), nest) for key, nest in row]
        self.assertIsNone(fault_of_row(web, laying, len(keys) - 1, places), (web, laying, row))

    def out(self, shelf, rule, there, key):
        if key in there:
            self.assertEqual(shelf.out(key), there.pop(key))
        else:
            self.refusal(NoKey, shelf.out, key)
        self.assertIs(shelf.has(key), False)
        self.assertIsNone(shelf.where(key))
        self.check(shelf, rule, there)

    def renew(self, shelf, rule, there, other):
        """Lays all anew; tells the rule that holds then."""
        keys = sorted(there)
        if fitted(web_by(other, keys))[0] == "crowd":
            some = self.refusal(Full, shelf.renew, other).some
            self.assertEqual(some, sorted(set(some) & set(keys)))
            self.assertTrue(tight_crowd(web_by(other, keys), [keys.index(key) for key in some]))
            self.check(shelf, rule, there)
            return rule
        self.assertIsNone(shelf.renew(other))
        self.assertEqual(shelf.all_there(), keys)
        for key in keys:
            self.assertIn(shelf.where(key), homes_by(other, key))
            there[key] = shelf.where(key)
        self.check(shelf, other, there)
        return other


class DeedsTest(ShelfCase):
    def test_an_empty_shelf(self):
        for rule in (ROUND, ONE, WIDE, ((0,), ((0, 0), (0, 0)))):
            shelf = Shelf(rule)
            self.check(shelf, rule, {})
            self.assertEqual(shelf.left(), list(rule[0]))
            self.assertIs(shelf.has(0), False)
            self.assertIsNone(shelf.where(0))
            self.refusal(NoKey, shelf.out, 0)

    def test_put_and_out_written_out(self):
        shelf = Shelf(ONE)
        self.assertEqual(shelf.put(7), [(7, 0)])
        self.assertEqual(shelf.put(0), [(0, 0)])
        self.assertEqual(shelf.all_there(), [0, 7])
        self.assertEqual(shelf.nest(0), [0, 7])
        self.assertEqual(shelf.left(), [0])
        self.assertEqual(self.refusal(Full, shelf.put, 3).some, [0, 3, 7])
        self.assertEqual(shelf.out(7), 0)
        self.assertEqual(shelf.all_there(), [0])
        self.assertEqual(shelf.left(), [1])
        self.assertEqual(shelf.put(3), [(3, 0)])
        self.assertEqual(shelf.nest(0), [0, 3])

    def test_keys_are_pushed_on(self):
        rule = ((1, 1, 1), ((1, 0), (1, 1)))
        shelf, there = Shelf(rule), {}
        for key in (0, 3, 6):
            self.assertEqual(self.put(shelf, rule, there, key), "put" if key < 6 else "full")
        self.assertEqual(sorted(there), [0, 3])
        # Key 1 has the homes 1 and 2; whichever of 0 and 3 lies in nest 1 stays there.
        self.assertEqual(shelf.put(1), [(1, 2)])
        self.assertEqual(self.refusal(Full, shelf.put, 2).some, [0, 1, 2, 3])

    def test_a_row_of_pushes_has_the_keys_themselves(self):
        # Nest by nest the keys must go on: the last that comes has one home, which is taken.
        rule = ((1, 1, 1, 1), ((1, 0), (2, 0)))
        far = FAR - FAR % (10007 * 4)
        self.assertEqual([homes_by(rule, far + key) for key in (0, 1, 2, 3)], [(0, 0), (1, 2), (2, 0), (3, 2)])
        shelf = Shelf(rule)
        there = {}
        for key in (far + 2, far + 1, far + 3, far):
            self.assertEqual(self.put(shelf, rule, there, key), "put")
        self.assertEqual(shelf.all_there(), [far, far + 1, far + 2, far + 3])

    def test_twice(self):
        shelf, there = Shelf(ONE), {}
        self.put(shelf, ONE, there, 5)
        self.assertEqual(self.put(shelf, ONE, there, 5), "twice")
        self.put(shelf, ONE, there, 0)
        # The nest is full now, but the key is there.
        self.assertEqual(self.put(shelf, ONE, there, 0), "twice")
        self.assertEqual(self.put(shelf, ONE, there, 5), "twice")

    def test_out_twice(self):
        shelf, there = Shelf(ONE), {}
        self.put(shelf, ONE, there, 5)
        for key in (4, 5, 5, 4):
            self.out(shelf, ONE, there, key)
        self.assertEqual(self.put(shelf, ONE, there, 5), "put")

    def test_homes_without_room(self):
        rule = ((0, 0), ((1, 0), (1, 1)))
        shelf = Shelf(rule)
        for key in (0, 1, FAR):
            self.assertEqual(self.refusal(Full, shelf.put, key).some, [key])
        self.check(shelf, rule, {})

    def test_key_0_and_keys_of_sixty_figures(self):
        for rule in (ROUND, WIDE, ONE):
            shelf, there = Shelf(rule), {}
            for key in (0, FARTHEST, FAR, 10007, FARTHEST - 1, 0, FAR):
                self.put(shelf, rule, there, key)
            for key in (0, FARTHEST, FAR + 1, FAR):
                self.out(shelf, rule, there, key)

    def test_homes_alike(self):
        rule = ((1, 2), ((1, 0), (1, 0), (1, 0)))
        shelf, there = Shelf(rule), {}
        words = [self.put(shelf, rule, there, key) for key in (1, 3, 5, 0, 2)]
        self.assertEqual(words, ["put", "put", "full", "put", "full"])
        self.assertEqual(self.refusal(Full, shelf.put, 5).some, [1, 3, 5])
        self.assertEqual(self.refusal(Full, shelf.put, 2).some, [0, 2])

    def test_only_those_that_can_be_pushed_are_told(self):
        rule = ((1, 1, 9), ((1, 0), (1, 0)))
        shelf = Shelf(rule)
        for key in (0, 1, 2, 5):
            shelf.put(key)
        self.assertEqual(self.refusal(Full, shelf.put, 3).some, [0, 3])
        self.assertEqual(self.refusal(Full, shelf.put, 4).some, [1, 4])

    def test_a_key_refused_before_comes_in_later(self):
        shelf, there = Shelf(ROUND), {}
        for key in (0, 1, 2):
            self.assertEqual(self.put(shelf, ROUND, there, key), "put")
        self.assertEqual(self.put(shelf, ROUND, there, 9), "full")
        self.out(shelf, ROUND, there, 1)
        self.assertEqual(self.put(shelf, ROUND, there, 9), "put")


class ThirtyTest(ShelfCase):
    def filled(self, keys):
        shelf, there = Shelf(WIDE), {}
        for key in keys:
            self.assertEqual(self.put(shelf, WIDE, there, key), "put")
        return shelf, there

    def test_the_thirtieth_and_the_one_behind(self):
        keys = list(range(10, 39)) + [FARTHEST]
        shelf, there = self.filled(keys)
        self.assertEqual(sum(shelf.left()), 6)
        for key in (0, 9, 39, FAR):
            self.assertEqual(self.put(shelf, WIDE, there, key), "thirty")
        self.assertEqual(self.refusal(Full, shelf.put, 39).some, list(range(10, 40)) + [FARTHEST])

    def test_twice_goes_first(self):
        shelf, there = self.filled(range(30))
        for key in (0, 15, 29):
            self.assertEqual(self.put(shelf, WIDE, there, key), "twice")

    def test_one_out_and_another_in(self):
        shelf, there = self.filled(range(30))
        self.out(shelf, WIDE, there, 17)
        self.assertEqual(self.put(shelf, WIDE, there, 100), "put")
        self.assertEqual(self.put(shelf, WIDE, there, 17), "thirty")

    def test_thirty_are_laid_anew(self):
        shelf, there = self.filled(range(30))
        tight = ((3,) * 10, ((1, 0), (1, 3), (0, 5)))
        self.assertEqual(self.renew(shelf, WIDE, there, tight), tight)
        self.assertEqual(shelf.left(), [0] * 10)
        none = ((2,) * 10, ((1, 0), (1, 3)))
        self.assertEqual(self.renew(shelf, tight, there, none), tight)

    def test_thirty_in_nests_that_are_just_full(self):
        rule = ((3,) * 10, ((1, 0), (3, 1), (9, 4)))
        shelf, there = Shelf(rule), {}
        words = [self.put(shelf, rule, there, key) for key in range(40)]
        self.assertIn("put", words)
        self.assertEqual(words.count("put"), len(there))


class RenewTest(ShelfCase):
    def test_an_empty_shelf(self):
        shelf = Shelf(ROUND)
        none = ((0,), ((0, 0), (0, 0)))
        self.assertIsNone(shelf.renew(none))
        self.check(shelf, none, {})

    def test_written_out(self):
        shelf = Shelf(((3,), ((1, 0), (1, 0))))
        for key in (4, 1, 8):
            shelf.put(key)
        self.assertEqual(shelf.nest(0), [1, 4, 8])
        other = ((0, 1, 2), ((1, 0), (1, 0)))
        # By threes key 1 and key 4 have nest 1 as their only home.
        refusal = self.refusal(Full, shelf.renew, other)
        self.assertEqual(refusal.some, [1, 4])
        self.assertEqual(shelf.rule(), ((3,), ((1, 0), (1, 0))))
        self.assertEqual(shelf.nest(0), [1, 4, 8])
        self.assertEqual(shelf.left(), [0])
        self.assertEqual(shelf.out(4), 0)
        self.assertIsNone(shelf.renew(other))
        self.assertEqual((shelf.where(1), shelf.where(8)), (1, 2))
        self.assertEqual(shelf.left(), [0, 0, 1])
        self.assertEqual(shelf.rule(), other)

    def test_a_refused_rule_is_not_followed(self):
        shelf, there = Shelf(ONE), {}
        self.put(shelf, ONE, there, 1)
        self.assertEqual(self.renew(shelf, ONE, there, ((0, 0), ((1, 0), (1, 1)))), ONE)
        self.assertEqual(self.put(shelf, ONE, there, 2), "put")

    def test_by_the_same_rule(self):
        shelf, there = Shelf(ROUND), {}
        for key in (0, 1, 2):
            self.put(shelf, ROUND, there, key)
        self.assertEqual(self.renew(shelf, ROUND, there, ROUND), ROUND)

    def test_fewer_nests(self):
        shelf, there = Shelf(WIDE), {}
        for key in range(12):
            self.put(shelf, WIDE, there, key)
        rule = self.renew(shelf, WIDE, there, ((9, 3), ((1, 0), (1, 1))))
        self.assertEqual(rule, ((9, 3), ((1, 0), (1, 1))))
        self.assertEqual(shelf.left(), [0, 0])


class PlayTest(ShelfCase):
    def play(self, start, rule, many):
        draw, shelf, there, words = Draw(start), Shelf(rule), {}, []
        names = list(range(25)) + [FARTHEST - k for k in range(8)]
        for _ in range(many):
            deed, key = draw.below(20), draw.one_of(names)
            if deed < 12:
                words.append(self.checked_put(shelf, rule, there, key))
            elif deed < 19:
                self.out(shelf, rule, there, key)
            else:
                other = drawn_rule(draw, len(rule[0]), max(rule[0]) + 1)
                rule = self.renew(shelf, rule, there, other)
        return words

    def checked_put(self, shelf, rule, there, key):
        together = fitted(web_by(rule, sorted(set(there) | {key})))[0]
        word = self.put(shelf, rule, there, key)
        if word in ("put", "full"):
            self.assertEqual(word == "put", together == "fits")
        return word

    def test_long_plays(self):
        words = []
        for start in range(40):
            draw = Draw(start)
            words.extend(self.play(start, drawn_rule(draw, 1 + draw.below(10), 1 + draw.below(4)), 120))
        for word in ("put", "full", "twice"):
            self.assertGreater(words.count(word), 150)

    def test_long_plays_where_each_nest_has_room_for_one(self):
        words = []
        for start in range(30):
            rule = ((1,) * 10, drawn_rule(Draw(start), 10, 1, 2)[1])
            words.extend(self.play(start, rule, 150))
        self.assertGreater(words.count("full"), 100)

    def test_long_plays_with_thirty_keys(self):
        words = []
        for start in range(6):
            rule = ((9,) * 10, drawn_rule(Draw(start), 10, 1, 3)[1])
            words.extend(self.play(start, rule, 200))
        self.assertGreater(words.count("put"), 100)


class OwnTest(ShelfCase):
    def test_two_shelves_beside_one_another(self):
        one, other = Shelf(ONE), Shelf(ONE)
        one.put(5)
        self.check(other, ONE, {})
        other.put(6)
        self.check(one, ONE, {5: 0})
        self.check(other, ONE, {6: 0})
        other.renew(((0, 3), ((1, 1), (1, 1))))
        self.check(one, ONE, {5: 0})
        one.out(5)
        self.assertEqual(other.all_there(), [6])

    def test_told_lists_are_the_askers_own(self):
        shelf, there = Shelf(ROUND), {}
        for key in (0, 1):
            self.put(shelf, ROUND, there, key)
        for told in (shelf.all_there(), shelf.nest(0), shelf.nest(1), shelf.nest(2), shelf.left()):
            spoil(told)
        self.check(shelf, ROUND, there)
        row = shelf.put(2)
        there.update(row)
        spoil(row)
        self.check(shelf, ROUND, there)

    def test_told_lists_stay_as_they_were(self):
        shelf = Shelf(ONE)
        row = shelf.put(5)
        told = (shelf.all_there(), shelf.nest(0), shelf.left())
        shelf.put(6)
        shelf.out(5)
        self.assertEqual(told, ([5], [5], [1]))
        self.assertEqual(row, [(5, 0)])

    def test_the_value_of_a_refusal_is_the_askers_own(self):
        shelf, there = Shelf(ONE), {}
        for key in (5, 6):
            self.put(shelf, ONE, there, key)
        refusal = self.refusal(Full, shelf.put, 7)
        spoil(refusal.some)
        self.check(shelf, ONE, there)
        again = self.refusal(Full, shelf.put, 7)
        self.assertEqual(again.some, [5, 6, 7])
        shelf.out(5)
        self.assertEqual(again.some, [5, 6, 7])
        shelf.put(5)
        narrow = ((1,), ((0, 0), (0, 0)))
        refusal = self.refusal(Full, shelf.renew, narrow)
        spoil(refusal.some)
        self.check(shelf, ONE, there)
        self.assertEqual(self.refusal(Full, shelf.renew, narrow).some, [5, 6])

    def test_a_refusal_of_thirty_is_the_askers_own(self):
        shelf = Shelf(WIDE)
        for key in range(30):
            shelf.put(key)
        spoil(self.refusal(Full, shelf.put, 50).some)
        self.assertEqual(self.refusal(Full, shelf.put, 50).some, list(range(30)) + [50])
        self.assertEqual(shelf.all_there(), list(range(30)))

    def test_the_rule_is_told_as_tuples(self):
        shelf = Shelf(ROUND)
        self.assertEqual(shelf.rule(), ROUND)
        self.assertIs(shelf.rule().__class__, tuple)


if __name__ == "__main__":
    unittest.main()
