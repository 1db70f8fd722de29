"""Promise 25, and what promises 2 and 3 say of the desk."""

import unittest

from keynests.desk import Desk
from keynests.errors import NestError, NoRow, NoText
from keynests.fits import fitted
from keynests.texts import read_rule, show_rule
from reckoning import (
    FAR, FARTHEST, Draw, drawn_rule, fault_of_row, fewest_pushes, most_that_lie, pushable, right_and_whole, tight_crowd,
    web_by)

LETTERS = "abcdefghij"
# One nest of room 2; three nests of room 1 in which key k has the homes k and k + 1, by threes.
ONE = "2 1,0 1,0"
ROUND = "1,1,1 1,0 1,1"
WIDE = "9,9,9,9 1,0 3,1 7,2"


def joined(words):
    return " ".join(str(word) for word in words)


def told_of(desk, keys):
    """All that a desk tells of itself."""
    rule = desk.say("rule")
    nests = [desk.say("nest " + letter) for letter in LETTERS[:len(rule.partition(" ")[0].split(","))]]
    return [rule, desk.say("keys"), desk.say("left"), nests, [(desk.say(f"has {k}"), desk.say(f"where {k}")) for k in keys]]


class DeskCase(unittest.TestCase):
    def refused(self, desk, kind, row):
        before = told_of(desk, [0, 1, 5])
        with self.assertRaises(NestError, msg=row) as taken:
            desk.say(row)
        self.assertIs(taken.exception.__class__, kind, row)
        self.assertEqual(told_of(desk, [0, 1, 5]), before, row)

    def said(self, desk, row):
        told = desk.say(row)
        self.assertIs(told.__class__, str)
        return told


class RowsTest(DeskCase):
    def test_an_empty_desk(self):
        desk = Desk("1,2,0 3,5 77,10006")
        for row, answer in [
            ("keys", "none"), ("nest a", "none"), ("nest b", "none"), ("nest c", "none"), ("left", "1,2,0"),
            ("rule", "1,2,0 3,5 77,10006"), ("has 0", "no"), ("where 0", "nowhere"), ("out 0", "nowhere"),
        ]:
            self.assertEqual(self.said(desk, row), answer, row)

    def test_put_and_out(self):
        desk = Desk(ONE)
        for row, answer in [
            ("put 7", "put 7:a"), ("put 7", "twice"), ("put 0", "put 0:a"), ("keys", "0 7"), ("nest a", "0 7"),
            ("left", "0"), ("put 3", "full 0 3 7"), ("put 0", "twice"), ("has 3", "no"), ("has 7", "yes"),
            ("where 7", "a"), ("where 3", "nowhere"), ("out 7", "a"), ("out 7", "nowhere"), ("has 7", "no"),
            ("keys", "0"), ("nest a", "0"), ("left", "1"), ("put 3", "put 3:a"), ("keys", "0 3"), ("out 0", "a"),
            ("out 3", "a"), ("keys", "none"), ("nest a", "none"), ("left", "2"),
        ]:
            self.assertEqual(self.said(desk, row), answer, row)

    def test_pushes(self):
        # The keys have, by fours, the homes k and 2k: of 0 and 4 nest a alone, of 2 and 6 the nests c and a.
        desk = Desk("1,1,1,0 1,0 2,0")
        for row, answer in [
            ("put 4", "put 4:a"), ("put 2", "put 2:c"), ("out 4", "a"), ("put 6", "put 6:a"), ("put 0", "full 0 2 6"),
            ("out 2", "c"), ("put 0", "put 0:a 6:c"), ("nest a", "0"), ("nest c", "6"), ("where 6", "c"),
        ]:
            self.assertEqual(self.said(desk, row), answer, row)

    def test_letters_up_to_j(self):
        desk = Desk("1,1,1,1,1,1,1,1,1,1 1,0 1,0")
        for nest in range(10):
            self.assertEqual(desk.say(f"put {nest}"), f"put {nest}:{LETTERS[nest]}")
            self.assertEqual(desk.say(f"where {nest}"), LETTERS[nest])
            self.assertEqual(desk.say(f"nest {LETTERS[nest]}"), str(nest))
        self.assertEqual(desk.say("out 9"), "j")
        self.assertEqual(desk.say("left"), "0,0,0,0,0,0,0,0,0,1")

    def test_keys_of_sixty_figures(self):
        desk = Desk("9 1,0 1,0")
        self.assertEqual(desk.say(f"put {FARTHEST}"), f"put {FARTHEST}:a")
        self.assertEqual(desk.say(f"put {FAR}"), f"put {FAR}:a")
        self.assertEqual(desk.say("put 0"), "put 0:a")
        self.assertEqual(desk.say("keys"), f"0 {FAR} {FARTHEST}")
        self.assertEqual(desk.say(f"out {FARTHEST}"), "a")
        self.assertEqual(desk.say(f"fits {FARTHEST} 0"), "fits a a")

    def test_thirty_keys(self):
        desk = Desk(WIDE)
        for key in range(30):
            self.assertTrue(desk.say(f"put {key}").startswith("put "))
        self.assertEqual(desk.say("put 40"), "full " + joined(list(range(30)) + [40]))
        self.assertEqual(desk.say("put 29"), "twice")
        self.assertEqual(desk.say("keys"), joined(range(30)))

    def test_renew(self):
        desk = Desk("3 1,0 1,0")
        for key in (4, 1, 8):
            desk.say(f"put {key}")
        self.assertEqual(desk.say("renew 0,1,2 1,0 1,0"), "full 1 4")
        self.assertEqual(desk.say("rule"), "3 1,0 1,0")
        self.assertEqual(desk.say("nest a"), "1 4 8")
        self.refused(desk, NoText, "nest b")
        self.assertEqual(desk.say("out 4"), "a")
        self.assertEqual(desk.say("renew 0,1,2 1,0 1,0"), "ok")
        self.assertEqual(desk.say("rule"), "0,1,2 1,0 1,0")
        self.assertEqual((desk.say("nest a"), desk.say("nest b"), desk.say("nest c")), ("none", "1", "8"))
        self.assertEqual(desk.say("left"), "0,0,1")
        self.assertEqual(desk.say("renew 9 1,2 3,4 5,6"), "ok")
        self.assertEqual(desk.say("rule"), "9 1,2 3,4 5,6")

    def test_renew_with_no_rule(self):
        desk = Desk(ONE)
        desk.say("put 1")
        for text in ("", " ", "1", "1 1,2", "1 1,2 3,4 ", " 1 1,2 3,4", "1  1,2 3,4", "10 1,2 3,4", "01 1,2 3,4", "x",
                     "1 1,2 3,4 5,6 7,8", "1; a a", "1 1,2 3,10007", "2 1,0 1,0 put"):
            self.refused(desk, NoText, "renew " + text)
        self.refused(desk, NoRow, "renew")

    def test_fits(self):
        desk = Desk(ROUND)
        self.assertEqual(desk.say("fits 0 1 2")[:5], "fits ")
        self.assertIn(desk.say("fits 0"), ("fits a", "fits b"))
        self.assertEqual(Desk("1,1,1 1,0 1,0").say("fits 2 0 1"), "fits c a b")
        self.assertEqual(Desk("0 1,0 1,0").say("fits 5"), "crowd 0")
        self.assertEqual(desk.say("fits 0 3 6"), "crowd 0 1 2")
        # Told are the places in the row, not the keys.
        self.assertIn(Desk("1,1,1 1,0 1,0").say("fits 2 7 8 4"), ("crowd 0 2", "crowd 1 3"))

    def test_alike_keys(self):
        desk = Desk("2,1 1,0 1,0")
        self.assertEqual(desk.say("fits 0 0"), "fits a a")
        self.assertEqual(desk.say("fits 0 0 0"), "crowd 0 1 2")
        self.assertEqual(desk.say("fits 0 1 0 1"), "crowd 1 3")
        self.assertEqual(desk.say("most 0 0 0 1 1"), "3")

    def test_these_keys_alone(self):
        desk = Desk(ONE)
        desk.say("put 1")
        desk.say("put 2")
        self.assertEqual(desk.say("fits 3 4"), "fits a a")
        self.assertEqual(desk.say("fits 1 2"), "fits a a")
        self.assertEqual(desk.say("most 3 4 5"), "2")
        self.assertEqual(desk.say("keys"), "1 2")

    def test_fits_and_most_by_the_rule_that_holds(self):
        desk = Desk(ONE)
        desk.say("renew 1,1 1,0 1,0")
        self.assertEqual(desk.say("fits 0 1"), "fits a b")
        self.assertEqual(desk.say("fits 0 2"), "crowd 0 1")
        self.assertEqual(desk.say("most 0 2 4 1"), "2")

    def test_most(self):
        desk = Desk(ROUND)
        self.assertEqual(desk.say("most 0"), "1")
        self.assertEqual(desk.say("most 0 3 6"), "2")
        self.assertEqual(desk.say("most 0 3 6 1"), "3")
        self.assertEqual(Desk("0 1,0 1,0").say("most 5 6 7"), "0")

    def test_one_and_thirty_keys(self):
        desk = Desk(WIDE)
        thirty = joined(range(30))
        self.assertEqual(len(desk.say("fits " + thirty).split(" ")), 31)
        self.assertEqual(desk.say("most " + thirty), "30")
        self.assertEqual(Desk(ONE).say("most " + thirty), "2")
        self.assertEqual(desk.say("most 7"), "1")
        for first in ("fits", "most"):
            self.refused(desk, NoRow, first + " " + thirty + " 30")
            self.refused(desk, NoRow, first)

    def test_drawn_fits_and_most(self):
        words = []
        for start in range(200):
            draw = Draw(start)
            rule = drawn_rule(draw, 1 + draw.below(5), 3)
            keys = [draw.below(40) for _ in range(1 + draw.below(6))]
            desk, web = Desk(show_rule(rule)), web_by(rule, keys)
            told = self.said(desk, "fits " + joined(keys)).split(" ")
            words.append(told[0])
            self.assertEqual(told[0], fitted(web)[0])
            if told[0] == "fits":
                self.assertTrue(right_and_whole(web, [LETTERS.index(letter) for letter in told[1:]]))
            else:
                some = [int(word) for word in told[1:]]
                self.assertEqual(some, sorted(some))
                self.assertTrue(tight_crowd(web, some))
            self.assertEqual(self.said(desk, "most " + joined(keys)), str(most_that_lie(web)))
        self.assertGreater(words.count("fits"), 40)
        self.assertGreater(words.count("crowd"), 40)


class NoRowTest(DeskCase):
    def setUp(self):
        self.desk = Desk(ROUND)
        for key in (0, 1):
            self.desk.say(f"put {key}")

    def test_no_text(self):
        for thing in (None, True, 0, 5, 1.5, [], ["put 5"], ("put", "5"), {}, b"put 5", b"keys", object(), str):
            self.refused(self.desk, NoRow, thing)

    def test_other_first_words(self):
        for row in ("", " ", "  ", "putt 5", "pu 5", "Put 5", "PUT 5", "5", "5 put", "get 5", "add 5", "x", "key", "Keys",
                    "lefts", "rules", "crowd 1", "full 1", "none", "all", "say keys", "put5", "put:5", "keys\n", "keys,",
                    "put\t5", "~", "renewal 1 1,2 3,4", "fit 1", "mos 1", "renew1 1,2 3,4", "__init__ 5"):
            self.refused(self.desk, NoRow, row)

    def test_words_more_or_fewer(self):
        for first in ("put", "out", "has", "where", "nest"):
            for rest in ("", " 5 6", " a b", " 5 5 5", " x y"):
                self.refused(self.desk, NoRow, first + rest)
        for first in ("keys", "left", "rule"):
            for rest in (" 5", " a", " 5 6", " keys", " x"):
                self.refused(self.desk, NoRow, first + rest)
        for row in ("fits", "most", "renew"):
            self.refused(self.desk, NoRow, row)

    def test_blanks(self):
        for row in ("put  5", " put 5", "put 5 ", "  put 5", "out  0", "has 0 ", " has 0", "where  0", "keys ", " keys",
                    "left ", "  left", "rule ", " rule", "nest  a", "nest a ", " nest a", " fits 1", " most 1",
                    " renew 1 1,2 3,4", "keys  ", "put   "):
            self.refused(self.desk, NoRow, row)

    def test_thirty_one_words_without_signs(self):
        self.refused(self.desk, NoRow, "fits" + " " * 31)
        self.refused(self.desk, NoRow, "most" + " x" * 31)
        self.refused(self.desk, NoText, "fits" + " " * 30)
        self.refused(self.desk, NoText, "most" + " x" * 30)


NO_KEYS = ["", "a", "x", "00", "01", "007", "+5", "-5", "-0", "+0", "5.0", "1e3", "0x5", "1_0", "5,", ",5", "5:", "1" * 61,
           "9" * 61, "0" * 60, "0" + "1" * 60, "1" * 1000, "five", "\u0665", "\u00b2", "\uff15", "5\n", "5\t", "~", "None"]


class NoTextTest(DeskCase):
    def setUp(self):
        self.desk = Desk(ROUND)
        for key in (0, 1):
            self.desk.say(f"put {key}")

    def test_keys(self):
        for word in NO_KEYS:
            for first in ("put", "out", "has", "where", "fits", "most"):
                self.refused(self.desk, NoText, first + " " + word)

    def test_keys_in_a_row(self):
        for word in NO_KEYS:
            for first in ("fits", "most"):
                for rest in (" 1 " + word, " " + word + " 1", " 1 " + word + " 2", " x " + word):
                    self.refused(self.desk, NoText, first + rest)

    def test_two_blanks_among_keys(self):
        for first in ("fits", "most"):
            for rest in ("  1", " 1  2", " 1 ", " ", "  "):
                self.refused(self.desk, NoText, first + rest)

    def test_sixty_figures_are_a_key(self):
        self.assertEqual(self.desk.say(f"has {FARTHEST}"), "no")
        self.assertEqual(self.desk.say(f"has {FAR}"), "no")

    def test_nests(self):
        for word in ("", "d", "e", "j", "k", "z", "A", "B", "0", "1", "ab", "aa", "abc", "-", "?", "`", "{", "a\n", "\u0430"):
            self.refused(self.desk, NoText, "nest " + word)

    def test_the_last_nest_of_the_shelf(self):
        self.assertIn(self.desk.say("nest c"), ("none", "1"))
        ten = Desk("1,1,1,1,1,1,1,1,1,1 1,0 1,1")
        self.assertEqual(ten.say("nest j"), "none")
        self.refused(ten, NoText, "nest k")
        one = Desk(ONE)
        self.assertEqual(one.say("nest a"), "none")
        self.refused(one, NoText, "nest b")


class MadeTest(DeskCase):
    def test_of_a_text_that_is_no_rules(self):
        for text in ("", " ", "1", "1 1,2", "1; a a", "1 1,2 3,4 ", " 1 1,2 3,4", "10 1,2 3,4", "1 1,2 3,10007", "x",
                     None, 5, True, ((1,), ((1, 2), (3, 4))), ["1 1,2 3,4"], b"1 1,2 3,4"):
            with self.assertRaises(NestError, msg=text) as taken:
                Desk(text)
            self.assertIs(taken.exception.__class__, NoText, text)

    def test_two_desks_beside_one_another(self):
        one, other = Desk(ONE), Desk(ONE)
        one.say("put 5")
        self.assertEqual(other.say("keys"), "none")
        other.say("put 6")
        other.say("renew 3,3 1,0 1,0")
        self.assertEqual(told_of(one, [5, 6]), [ONE, "5", "1", ["5"], [("yes", "a"), ("no", "nowhere")]])


class PlayTest(DeskCase):
    """A long play; the test keeps what the desk has told, and reckons the rest by itself."""

    def put(self, desk, rule, there, key):
        told = self.said(desk, f"put {key}").split(" ")
        keys = sorted(there) + [key]
        if key in there:
            self.assertEqual(told, ["twice"])
        elif len(there) == 30:
            self.assertEqual(told, ["full"] + [str(one) for one in sorted(keys)])
        else:
            web, laying = web_by(rule, keys), [there[one] for one in keys[:-1]] + [None]
            fewest = fewest_pushes(web, laying, len(keys) - 1)
            if fewest is None:
                some = sorted(keys[place] for place in pushable(web, laying, len(keys) - 1))
                self.assertEqual(told, ["full"] + [str(one) for one in some])
            else:
                self.assertEqual((told[0], len(told)), ("put", fewest + 1))
                row = [word.split(":") for word in told[1:]]
                row = [(int(one), LETTERS.index(letter)) for one, letter in row]
                self.assertIsNone(fault_of_row(web, laying, len(keys) - 1, [(keys.index(one), nest) for one, nest in row]))
                there.update(row)
        return told[0]

    def renew(self, desk, rule, there, other):
        told = self.said(desk, "renew " + show_rule(other)).split(" ")
        keys = sorted(there)
        web = web_by(other, keys)
        self.assertEqual(told[0], "ok" if fitted(web)[0] == "fits" else "full")
        if told[0] == "full":
            self.assertTrue(tight_crowd(web, [keys.index(int(word)) for word in told[1:]]))
            self.assertEqual(told[1:], [str(key) for key in sorted(int(word) for word in told[1:])])
            return rule
        self.assertEqual(told, ["ok"])
        for key in keys:
            there[key] = LETTERS.index(desk.say(f"where {key}"))
        return other

    def check(self, desk, rule, there, names):
        keys = sorted(there)
        self.assertTrue(right_and_whole(web_by(rule, keys), [there[key] for key in keys]))
        lying = [[key for key in keys if there[key] == nest] for nest in range(len(rule[0]))]
        left = ",".join(str(room - len(some)) for room, some in zip(rule[0], lying))
        known = [("yes", LETTERS[there[key]]) if key in there else ("no", "nowhere") for key in names]
        told = [show_rule(rule), joined(keys) or "none", left, [joined(some) or "none" for some in lying], known]
        self.assertEqual(told_of(desk, names), told)
        self.assertEqual(read_rule(desk.say("rule")), rule)

    def play(self, start, rule, many):
        draw, desk, there, words = Draw(start), Desk(show_rule(rule)), {}, []
        names = list(range(14)) + [FARTHEST - k for k in range(4)]
        for _ in range(many):
            deed, key = draw.below(16), draw.one_of(names)
            if deed < 9:
                words.append(self.put(desk, rule, there, key))
            elif deed < 14:
                nest = there.pop(key, None)
                self.assertEqual(self.said(desk, f"out {key}"), "nowhere" if nest is None else LETTERS[nest])
            elif deed < 15:
                self.refused(desk, NoRow, f"put {key} {key}")
                self.refused(desk, NoText, f"out {key}.")
            else:
                rule = self.renew(desk, rule, there, drawn_rule(draw, 1 + draw.below(6), max(rule[0]) + 1))
            self.check(desk, rule, there, names)
        return words

    def test_long_plays(self):
        words = []
        for start in range(25):
            draw = Draw(start)
            words.extend(self.play(start, drawn_rule(draw, 2 + draw.below(5), 1 + draw.below(3)), 80))
        for word in ("put", "full", "twice"):
            self.assertGreater(words.count(word), 60)


if __name__ == "__main__":
    unittest.main()
