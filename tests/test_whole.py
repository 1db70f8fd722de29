"""Promise 3: over the whole program, what one module tells holds by the others."""

import unittest

from keynests.desk import Desk
from keynests.errors import Full, NestError, NoFit
from keynests.fits import fitted, is_crowd, trimmed
from keynests.layings import fault, is_whole, laid, left, lying
from keynests.lies import may_lie, places
from keynests.most import bound, most, room_wanted, widened
from keynests.names import keys_named, laying_of_keys, laying_of_nests, nests_named, some_named
from keynests.pairs import on_rings, parts, ways, words
from keynests.pushes import pushed, put_in, within
from keynests.rules import homes, is_rule, rule_of
from keynests.shelves import Shelf
from keynests.texts import read_rule, read_web, show_rule, show_web
from keynests.webs import homes_of, is_web, room_of, web_of
from keynests.worths import best, is_best
from reckoning import EDGE_WEBS, FAR, Draw, drawn_rule, great_webs, pair_webs, small_webs, tight_webs


def drawn_asks(many):
    """Rules with keys, from few to thirty, that fit or don't."""
    for start in range(many):
        draw = Draw(7000 + start)
        rule = drawn_rule(draw, 1 + draw.below(10), 1 + draw.below(4))
        yield rule, [draw.below(FAR) if draw.below(3) == 0 else draw.below(60) for _ in range(draw.below(31))]


def all_webs():
    told = [web_of(rule_of(*rule), keys) for rule, keys in drawn_asks(80)]
    return told + small_webs(60) + tight_webs(40) + pair_webs(40) + great_webs(10) + EDGE_WEBS


class FitsOrACrowdTest(unittest.TestCase):
    def test_the_one_or_the_other(self):
        for web in all_webs():
            word, told = fitted(web)
            if word == "fits":
                self.assertIsNone(fault(web, told))
                self.assertIs(is_whole(told), True)
                self.assertEqual(sum(left(web, told)) + len(web[1]), sum(web[0]))
            else:
                self.assertIs(is_crowd(web, told), True)
                self.assertEqual(room_of(web, homes_of(web, told)), len(told) - 1)
                self.assertEqual(trimmed(web, told), told)

    def test_the_most_lie_and_more_room_lets_all_lie(self):
        for web in all_webs():
            fits = fitted(web)[0] == "fits"
            laying, nests = most(web)
            self.assertIsNone(fault(web, laying))
            self.assertEqual(len(laid(laying)), bound(web, nests))
            self.assertEqual(is_whole(laying), fits)
            more, all_laid = room_wanted(web)
            self.assertEqual(sum(more), len(web[1]) - len(laid(laying)))
            self.assertEqual(sum(more) == 0, fits)
            self.assertIsNone(fault(widened(web, more), all_laid))
            self.assertIs(is_whole(all_laid), True)
            self.assertEqual(fitted(widened(web, more))[0], "fits")

    def test_one_room_less_than_wanted_is_too_little(self):
        for web in all_webs():
            more = room_wanted(web)[0]
            for nest in range(len(more)):
                if more[nest]:
                    fewer = more[:nest] + [more[nest] - 1] + more[nest + 1:]
                    self.assertEqual(fitted(widened(web, fewer))[0], "crowd")

    def test_no_place_can_be_found_for_those_that_do_not_lie(self):
        for web in all_webs():
            laying = most(web)[0]
            for key in [key for key, nest in enumerate(laying) if nest is None]:
                word, some = put_in(web, laying, key)
                self.assertEqual(word, "full")
                self.assertIs(is_crowd(web, some), True)
                self.assertEqual(room_of(web, homes_of(web, some)), len(some) - 1)


class OneByOneTest(unittest.TestCase):
    def test_keys_put_in_one_behind_another(self):
        for web in all_webs():
            laying = [None] * len(web[1])
            for key in range(len(web[1])):
                together = [web[1][other] for other in laid(laying)] + [web[1][key]]
                word, told = put_in(web, laying, key)
                self.assertEqual(word == "put", fitted((web[0], tuple(together)))[0] == "fits")
                if word == "put":
                    before = laid(laying)
                    self.assertEqual(len(within(web, laying, key, len(told))), len(told))
                    self.assertIsNone(within(web, laying, key, len(told) - 1))
                    laying = pushed(web, laying, key, told)
                    self.assertIsNone(fault(web, laying))
                    self.assertEqual(laid(laying), sorted(before + [key]))
                else:
                    self.assertIsNone(within(web, laying, key, FAR))
            self.assertEqual(len(laid(laying)), len(laid(most(web)[0])))

    def test_a_shelf_refuses_just_what_does_not_fit(self):
        for rule, keys in drawn_asks(60):
            shelf = Shelf(rule)
            for key in sorted(set(keys), key=keys.index):
                together = fitted(web_of(rule, shelf.all_there() + [key]))[0]
                try:
                    row = shelf.put(key)
                except Full as refusal:
                    self.assertEqual(together, "crowd")
                    self.assertIs(is_crowd(web_of(rule, refusal.some), list(range(len(refusal.some)))), True)
                else:
                    self.assertEqual(together, "fits")
                    self.assertEqual(row[0][0], key)
            there = shelf.all_there()
            web, laying = web_of(rule, there), [shelf.where(key) for key in there]
            self.assertIsNone(fault(web, laying))
            self.assertEqual(shelf.left(), left(web, laying))
            for nest in range(len(rule[0])):
                self.assertEqual(shelf.nest(nest), [there[place] for place in lying(laying, nest)])
            for key in there:
                self.assertIn(shelf.where(key), homes(rule, key))
            self.assertEqual(len(there), len(laid(most(web_of(rule, sorted(set(keys))))[0])))

    def test_a_desk_tells_what_its_modules_tell(self):
        for rule, keys in drawn_asks(60):
            desk = Desk(show_rule(rule))
            if keys:
                row = " ".join(str(key) for key in keys)
                web = web_of(rule, keys)
                self.assertEqual(desk.say("fits " + row).split(" ")[0], fitted(web)[0])
                self.assertEqual(desk.say("most " + row), str(len(laid(most(web)[0]))))
            self.assertEqual(read_rule(desk.say("rule")), rule)


class PairsTest(unittest.TestCase):
    def test_keys_fit_just_where_no_part_is_over(self):
        for web in pair_webs(200):
            fits = fitted(web)[0] == "fits"
            self.assertEqual("over" not in words(web), fits)
            self.assertEqual(ways(web) > 0, fits)
            for (nests, keys), word in zip(parts(web), words(web)):
                self.assertEqual(is_crowd(web, keys), word == "over")
                if word == "tree":
                    self.assertEqual(set(keys) & set(on_rings(web)), set())

    def test_the_only_way(self):
        for web in pair_webs(200):
            if fitted(web)[0] == "fits":
                told = places(web)
                self.assertEqual(ways(web) == 1, all(len(nests) == 1 for nests in told))


class PlacesTest(unittest.TestCase):
    def test_places_and_may_lie_and_fitted(self):
        for web in all_webs():
            word, some = fitted(web)
            if word == "crowd":
                with self.assertRaises(NoFit) as taken:
                    places(web)
                self.assertEqual(trimmed(web, taken.exception.some), taken.exception.some)
                continue
            for key, nests in enumerate(places(web)):
                self.assertIn(some[key], nests)
                for nest in homes_of(web, [key]):
                    self.assertEqual(may_lie(web, key, nest)[0], "lies" if nest in nests else "never")

    def test_never_where_they_do_not_fit(self):
        for web in small_webs(100) + tight_webs(60):
            if fitted(web)[0] == "crowd":
                for key in range(len(web[1])):
                    for nest in web[1][key]:
                        self.assertEqual(may_lie(web, key, nest)[0], "never")


class WorthsTest(unittest.TestCase):
    def test_best_and_most(self):
        for start, web in enumerate(all_webs()):
            draw = Draw(start)
            worths = [draw.below(5) for _ in web[1]]
            told = best(web, worths)
            self.assertIs(is_best(web, worths, told), True)
            for least, nests in told[2]:
                worthy = [key for key, worth in enumerate(worths) if worth >= least]
                alone = (web[0], tuple(web[1][key] for key in worthy))
                many = len([key for key in told[0] if worths[key] >= least])
                self.assertEqual(many, len(laid(most(alone)[0])))
                self.assertEqual(many, bound(alone, nests))
            if fitted(web)[0] == "fits":
                self.assertEqual(sum(worths[key] for key in told[0]), sum(worths))


class OtherNamesTest(unittest.TestCase):
    def test_all_is_carried_along(self):
        for start, web in enumerate(all_webs()):
            draw = Draw(start)
            nests, keys = draw.shuffled(range(len(web[0]))), draw.shuffled(range(len(web[1])))
            other = keys_named(nests_named(web, nests), keys)
            self.assertEqual(other, nests_named(keys_named(web, keys), nests))
            word, told = fitted(web)
            self.assertEqual(fitted(other)[0], word)
            if word == "fits":
                self.assertIsNone(fault(other, laying_of_keys(laying_of_nests(told, nests), keys)))
            else:
                self.assertIs(is_crowd(other, some_named(told, keys)), True)
            laying, shown = most(web)
            self.assertIsNone(fault(other, laying_of_keys(laying_of_nests(laying, nests), keys)))
            self.assertEqual(bound(other, some_named(shown, nests)), len(laid(laying)))

    def test_pairs_are_carried_along(self):
        for start, web in enumerate(pair_webs(100)):
            draw = Draw(start)
            nests, keys = draw.shuffled(range(len(web[0]))), draw.shuffled(range(len(web[1])))
            other = keys_named(nests_named(web, nests), keys)
            self.assertEqual(ways(other), ways(web))
            self.assertEqual(on_rings(other), some_named(on_rings(web), keys))
            self.assertEqual(sorted(words(other)), sorted(words(web)))

    def test_places_are_carried_along(self):
        for start, web in enumerate(small_webs(80) + tight_webs(60)):
            draw = Draw(start)
            nests, keys = draw.shuffled(range(len(web[0]))), draw.shuffled(range(len(web[1])))
            other = keys_named(nests_named(web, nests), keys)
            if fitted(web)[0] == "fits":
                told = [some_named(places_of, nests) for places_of in places(web)]
                self.assertEqual(places(other), laying_of_keys(told, keys))


class TextsTest(unittest.TestCase):
    def test_written_and_read(self):
        for rule, keys in drawn_asks(100):
            self.assertEqual(read_rule(show_rule(rule)), rule)
            self.assertIs(is_rule(rule), True)
            web = web_of(rule, keys)
            self.assertIs(is_web(web), True)
            self.assertEqual(read_web(show_web(web)), web)
            self.assertEqual(fitted(read_web(show_web(web))), fitted(web))


class AgainTest(unittest.TestCase):
    def test_the_same_asked_again_is_told_again(self):
        webs = all_webs()
        first = [(fitted(web), most(web), room_wanted(web), parts(web)) for web in webs]
        second = [(fitted(web), most(web), room_wanted(web), parts(web)) for web in reversed(webs)]
        self.assertEqual(first, second[::-1])

    def test_refusals_are_taken_as_one_kind(self):
        for deed in (lambda: rule_of(1, 2), lambda: places(((0,), ((0, 0),))), lambda: words(((2,), ())),
                     lambda: read_rule(""), lambda: Desk("1 1,2 3,4").say(""), lambda: Shelf(((1,), ((1, 2), (3, 4)))).out(1)):
            self.assertRaises(NestError, deed)
            self.assertRaises(ValueError, deed)


if __name__ == "__main__":
    unittest.main()
