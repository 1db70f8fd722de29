"""Promise 20, and what promises 2, 3 and 11 say of worths."""

import copy
import unittest

from keynests.layings import fault, laid
from keynests.most import bound, most
from keynests.worths import best, is_best
from reckoning import (
    EDGE_WEBS, FAR, FARTHEST, Draw, all_layings, bound_of, check_own, great_webs, right, rising, small_webs, tight_webs)

FIFTY = 10 ** 49


def drawn_worths(draw, web, kind):
    if kind == 0:
        return [draw.below(4) for _ in web[1]]
    if kind == 1:
        return [draw.below(3) * FIFTY + draw.below(2) for _ in web[1]]
    return [draw.below(100) for _ in web[1]]


def drawn_asks(many):
    told = []
    for start, web in enumerate(small_webs(many) + tight_webs(many // 2)):
        told.append((web, drawn_worths(Draw(3000 + start), web, start % 3)))
    return told


def unlike_falling(worths):
    return sorted({worth for worth in worths if worth > 0}, reverse=True)


def worthy_web(web, worths, least):
    return (web[0], tuple(homes for homes, worth in zip(web[1], worths) if worth >= least))


def is_all_so(web, worths, told):
    """What the document asks of such a thing, one by one."""
    some, laying, shows = told
    if not right(web, laying) or some != [key for key, nest in enumerate(laying) if nest is not None]:
        return False
    if [worth for worth, _ in shows] != unlike_falling(worths):
        return False
    for least, nests in shows:
        if len([key for key in some if worths[key] >= least]) != bound_of(worthy_web(web, worths, least), nests):
            return False
    return True


def greatest_sum(web, worths):
    return max(sum(worth for worth, nest in zip(worths, laying) if nest is not None) for laying in all_layings(web))


class BestTest(unittest.TestCase):
    def check(self, web, worths):
        told = best(web, worths)
        self.assertIs(told.__class__, tuple)
        self.assertEqual(len(told), 3)
        some, laying, shows = told
        self.assertTrue(rising(some, len(web[1])), (web, worths, told))
        self.assertTrue(right(web, laying), (web, worths, told))
        self.assertIsNone(fault(web, laying))
        self.assertEqual(laid(laying), some)
        self.assertIs(shows.__class__, list)
        self.assertEqual([show[0] for show in shows], unlike_falling(worths), (web, worths, told))
        for show in shows:
            self.assertIs(show.__class__, tuple)
            self.assertEqual(len(show), 2)
            self.assertTrue(rising(show[1], len(web[0])))
            alone = worthy_web(web, worths, show[0])
            many = len([key for key in some if worths[key] >= show[0]])
            self.assertEqual(many, bound_of(alone, show[1]), (web, worths, told))
            self.assertEqual(many, bound(alone, show[1]))
        self.assertTrue(is_all_so(web, worths, told))
        self.assertIs(is_best(web, worths, told), True)
        return sum(worths[key] for key in some)

    def test_small_webs_against_all_layings(self):
        for web, worths in drawn_asks(400):
            self.assertEqual(self.check(web, worths), greatest_sum(web, worths), (web, worths))

    def test_written_out(self):
        web = ((1,), ((0, 0), (0, 0), (0, 0)))
        some, laying, shows = best(web, [1, 3, 2])
        self.assertEqual((some, laying), ([1], [None, 0, None]))
        # Of the key worth 3 alone both no nests and nest 0 have the bound 1.
        self.assertIn(shows, ([(3, []), (2, [0]), (1, [0])], [(3, [0]), (2, [0]), (1, [0])]))

    def test_a_key_of_more_worth_comes_later(self):
        web = ((1, 1), ((0, 1), (0, 1), (0, 0)))
        self.assertEqual(best(web, [1, 5, 9])[:2], ([1, 2], [None, 1, 0]))

    def test_many_of_little_worth_go_before_one_of_much(self):
        # Whatever is taken, two lie: not the one of 5 alone.
        web = ((1, 1), ((0, 1), (0, 0), (1, 1)))
        self.assertEqual(self.check(web, [5, 4, 4]), 9)
        self.assertEqual(self.check(web, [3, 4, 4]), 8)

    def test_all_worths_0(self):
        for web in small_webs(40) + EDGE_WEBS:
            self.check(web, [0] * len(web[1]))
            self.assertEqual(best(web, [0] * len(web[1]))[2], [])

    def test_some_worths_0(self):
        self.assertEqual(self.check(((1,), ((0, 0), (0, 0))), [0, 7]), 7)
        self.assertEqual(self.check(((1,), ((0, 0), (0, 0))), [7, 0]), 7)

    def test_worths_alike(self):
        for web in small_webs(100) + tight_webs(60) + great_webs(12) + EDGE_WEBS:
            many = len(laid(most(web)[0]))
            self.assertEqual(self.check(web, [4] * len(web[1])), 4 * many)
            if web[1]:
                self.assertEqual([show[0] for show in best(web, [4] * len(web[1]))[2]], [4])

    def test_worths_of_fifty_figures(self):
        web = ((1, 1), ((0, 1), (1, 1), (0, 0)))
        self.assertEqual(self.check(web, [FIFTY, FIFTY + 1, FIFTY - 1]), 2 * FIFTY + 1)
        self.assertEqual(self.check(web, [FARTHEST, FAR, FAR + 1]), FARTHEST + FAR + 1)

    def test_rooms_of_0(self):
        self.assertEqual(best(((0,), ((0, 0), (0, 0))), [5, 2]), ([], [None, None], [(5, [0]), (2, [0])]))
        self.assertEqual(self.check(((0, 1), ((0, 0), (0, 1), (1, 1))), [9, 1, 2]), 2)

    def test_no_keys(self):
        self.assertEqual(best(((0,), ()), []), ([], [], []))
        self.assertEqual(best(((9,) * 10, ()), []), ([], [], []))

    def test_thirty_keys(self):
        for start, web in enumerate(great_webs(40)):
            draw = Draw(start)
            self.check(web, drawn_worths(draw, web, start % 3))
            self.check(((1,) * 10, web[1]), drawn_worths(draw, web, 2))

    def test_rooms_far_above_nine(self):
        web = ((FAR, 10, 1), ((0, 1),) + ((1, 1),) * 12 + ((2, 2), (2, 2)))
        self.assertEqual(self.check(web, list(range(15))), sum(range(3, 13)) + 14)
        self.assertEqual(self.check(((FARTHEST,) * 3, web[1]), list(range(15))), sum(range(15)))

    def test_own(self):
        web = ((1, 1), ((0, 1), (1, 1), (0, 0), (0, 1)))
        for worths in ([3, 1, 2, 2], [0, 0, 0, 0], [5, 5, 0, 1]):
            check_own(self, best, web, worths)

    def test_asked_again_behind_a_change_of_the_list(self):
        web = ((1,), ((0, 0), (0, 0)))
        worths = [2, 1]
        self.assertEqual(best(web, worths)[0], [0])
        worths[1] = 3
        self.assertEqual(best(web, worths)[0], [1])


class IsBestTest(unittest.TestCase):
    # Keys 0 and 1 lie, key 2 can't, key 3 has room of its own, key 4 is worth nothing.
    WEB = ((1, 1, 1, 1), ((0, 1), (0, 1), (1, 0), (2, 2), (3, 3)))
    WORTHS = [7, 5, 5, 2, 0]
    TOLD = ([0, 1, 3], [0, 1, None, 2, None], [(7, []), (5, [0, 1]), (2, [0, 1])])

    def false(self, some, laying, shows):
        self.assertIs(is_best(self.WEB, self.WORTHS, (some, laying, shows)), False, (some, laying, shows))

    def true(self, some, laying, shows):
        self.assertIs(is_best(self.WEB, self.WORTHS, (some, laying, shows)), True, (some, laying, shows))

    def test_right_things(self):
        some, laying, shows = self.TOLD
        self.true(some, laying, shows)
        self.true(some, [1, 0, None, 2, None], shows)
        # Another key of the same worth.
        self.true([0, 2, 3], [0, None, 1, 2, None], shows)
        # A key of worth 0 may lie too.
        self.true([0, 1, 3, 4], [0, 1, None, 2, 3], shows)
        # Other nests of the same bound: nest 2 has room for just the key that has no home beyond.
        self.true(some, laying, [(7, []), (5, [0, 1]), (2, [0, 1, 2])])

    def test_some_put_otherwise(self):
        some, laying, shows = self.TOLD
        for other in ([0, 1], [0, 3], [1, 3], [], [0, 1, 2, 3], [0, 1, 3, 4], [0, 2, 3], [0, 1, 2, 3, 4]):
            self.false(other, laying, shows)

    def test_the_laying_put_otherwise(self):
        some, laying, shows = self.TOLD
        for key in (0, 1, 3):
            for nest in (None, -1, -2, 3, 4, 5, FAR, -FAR):
                other = list(laying)
                other[key] = nest
                self.false(some, other, shows)
        self.false(some, [0, 1, 0, 2, None], shows)
        # Too full, with all in homes and just these keys.
        self.false(some, [0, 0, None, 2, None], shows)
        self.false(some, [1, 1, None, 2, None], shows)
        self.false([0, 1, 2, 3], [0, 1, 1, 2, None], shows)

    def test_fewer_keys_than_the_bound(self):
        some, laying, shows = self.TOLD
        self.false([0, 1], [0, 1, None, None, None], shows)
        self.false([0, 3], [0, None, None, 2, None], shows)
        self.false([1, 2, 3], [None, 0, 1, 2, None], shows)
        self.false([], [None] * 5, shows)

    def test_shows_put_otherwise(self):
        some, laying, shows = self.TOLD
        for place in range(3):
            self.false(some, laying, shows[:place] + shows[place + 1:])
            self.false(some, laying, shows[:place + 1] + shows[place:])
            for change in (1, -1):
                other = list(shows)
                other[place] = (shows[place][0] + change, shows[place][1])
                self.false(some, laying, other)
        self.false(some, laying, shows[::-1])
        self.false(some, laying, [shows[1], shows[0], shows[2]])
        self.false(some, laying, shows + [(0, [0, 1])])
        self.false(some, laying, shows + [(0, [])])
        self.false(some, laying, shows + [(1, [0, 1])])
        self.false(some, laying, [(8, [])] + shows)
        self.false(some, laying, [])

    def test_a_nest_of_a_shown_one_more_or_less(self):
        some, laying, shows = self.TOLD
        for place, nests in ((0, [0]), (0, [3]), (1, [0]), (1, [1]), (1, [0, 1, 2]), (2, [0]), (2, []), (2, [0, 1, 3])):
            other = list(shows)
            other[place] = (shows[place][0], nests)
            self.false(some, laying, other)

    def test_a_bound_is_of_the_keys_of_that_worth_alone(self):
        # In the whole web nests 0 and 1 have the bound 4, among the keys of worth 5 or more it is 2.
        self.assertEqual(bound(self.WEB, [0, 1]), 4)
        web = ((1, 1), ((0, 0), (0, 0), (0, 1)))
        self.assertIs(is_best(web, [2, 1, 1], ([0, 2], [0, None, 1], [(2, []), (1, [0])])), True)
        self.assertIs(is_best(web, [2, 1, 1], ([1, 2], [None, 0, 1], [(2, []), (1, [0])])), False)

    def test_no_keys(self):
        self.assertIs(is_best(((0,), ()), [], ([], [], [])), True)
        self.assertIs(is_best(((0,), ()), [], ([], [], [(1, [])])), False)
        self.assertIs(is_best(((0,), ()), [], ([], [], [(0, [])])), False)

    def test_all_worths_0(self):
        web = ((1,), ((0, 0), (0, 0)))
        for some, laying in (([], [None, None]), ([0], [0, None]), ([1], [None, 0])):
            self.assertIs(is_best(web, [0, 0], (some, laying, [])), True)
        self.assertIs(is_best(web, [0, 0], ([0, 1], [0, 0], [])), False)
        self.assertIs(is_best(web, [0, 0], ([], [None, None], [(0, [])])), False)

    def changes(self, web, worths, told):
        """Things of the same form, each with one thing put otherwise."""
        some, laying, shows = told
        for key in range(len(web[1])):
            yield (sorted(set(some) ^ {key}), laying, shows)
            for nest in [None, -1, len(web[0]), FAR] + list(range(len(web[0]))):
                yield (some, laying[:key] + [nest] + laying[key + 1:], shows)
                other = laying[:key] + [nest] + laying[key + 1:]
                yield ([one for one, place in enumerate(other) if place is not None], other, shows)
        for place, (worth, nests) in enumerate(shows):
            yield (some, laying, shows[:place] + shows[place + 1:])
            yield (some, laying, shows[:place] + [(worth + 1, nests)] + shows[place + 1:])
            yield (some, laying, shows[:place] + [(worth - 1, nests)] + shows[place + 1:])
            for nest in range(len(web[0])):
                yield (some, laying, shows[:place] + [(worth, sorted(set(nests) ^ {nest}))] + shows[place + 1:])
        yield (some, laying, shows + [(0, [])])
        yield (some, laying, shows[::-1])

    def test_drawn_things_put_otherwise(self):
        answers = []
        for web, worths in drawn_asks(160):
            greatest = greatest_sum(web, worths)
            for thing in self.changes(web, worths, best(web, worths)):
                answer = is_best(web, worths, thing)
                self.assertIs(answer, is_all_so(web, worths, thing), (web, worths, thing))
                if answer:
                    self.assertEqual(sum(worths[key] for key in thing[0]), greatest)
                answers.append(answer)
        self.assertGreater(answers.count(True), 300)
        self.assertGreater(answers.count(False), 3000)

    def test_thirty_keys_put_otherwise(self):
        for start, web in enumerate(great_webs(4)):
            worths = drawn_worths(Draw(start), web, 0)
            for thing in self.changes(web, worths, best(web, worths)):
                self.assertIs(is_best(web, worths, thing), is_all_so(web, worths, thing))

    def test_rooms_far_above_nine(self):
        web = ((FAR, 1), ((0, 1), (1, 1), (1, 1)))
        told = ([0, 1], [0, 1, None], [(3, []), (2, [1])])
        self.assertIs(is_best(web, [3, 3, 2], told), True)
        self.assertIs(is_best(web, [3, 3, 2], ([0, 1], [0, 1, None], [(3, []), (2, [0, 1])])), False)
        self.assertIs(is_best(web, [3, 3, 2], ([0, 1], [0, 1, None], [(3, [0]), (2, [1])])), False)

    def test_own(self):
        check_own(self, is_best, self.WEB, list(self.WORTHS), copy.deepcopy(self.TOLD))
        wrong = (self.TOLD[0], [0, 0, None, 2, None], self.TOLD[2])
        check_own(self, is_best, self.WEB, list(self.WORTHS), copy.deepcopy(wrong))

    def test_asked_again_behind_a_change_of_the_lists(self):
        thing = copy.deepcopy(self.TOLD)
        self.assertIs(is_best(self.WEB, self.WORTHS, thing), True)
        thing[1][3] = None
        self.assertIs(is_best(self.WEB, self.WORTHS, thing), False)
        thing[1][3] = 2
        self.assertIs(is_best(self.WEB, self.WORTHS, thing), True)
        thing[2][1][1].append(2)
        self.assertIs(is_best(self.WEB, self.WORTHS, thing), False)


if __name__ == "__main__":
    unittest.main()
