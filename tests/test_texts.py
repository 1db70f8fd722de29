"""Promise 24, and what promise 2 says of texts."""

import unittest

from keynests.errors import NestError, NoText
from keynests.rules import is_rule
from keynests.texts import read_rule, read_web, show_rule, show_web
from keynests.webs import is_web
from reckoning import Draw, drawn_rule, drawn_web

RULES = [
    (((1, 2, 0), ((3, 5), (77, 10006))), "1,2,0 3,5 77,10006"),
    (((0,), ((0, 0), (0, 0))), "0 0,0 0,0"),
    (((9,), ((10006, 10006), (10006, 10006), (10006, 10006))), "9 10006,10006 10006,10006 10006,10006"),
    (((1,), ((0, 10006), (10006, 0), (1, 10))), "1 0,10006 10006,0 1,10"),
    (((0,) * 10, ((1, 2), (3, 4))), "0,0,0,0,0,0,0,0,0,0 1,2 3,4"),
    (((9,) * 10, ((1, 2), (3, 4), (5, 6))), "9,9,9,9,9,9,9,9,9,9 1,2 3,4 5,6"),
    (((0, 1, 2, 3, 4, 5, 6, 7, 8, 9), ((100, 1000), (10, 20))), "0,1,2,3,4,5,6,7,8,9 100,1000 10,20"),
]

WEBS = [
    (((1, 2, 0), ((0, 1), (2, 2, 0))), "1,2,0; a b; c c a"),
    (((0,), ()), "0"),
    (((9,), ()), "9"),
    (((9,) * 10, ()), "9,9,9,9,9,9,9,9,9,9"),
    (((0,), ((0, 0),)), "0; a a"),
    (((0,), ((0, 0, 0),)), "0; a a a"),
    (((1,) * 10, ((0, 9), (9, 8, 7), (6, 5), (4, 3, 2), (1, 1))), "1,1,1,1,1,1,1,1,1,1; a j; j i h; g f; e d c; b b"),
    (((1, 2), ((0, 1),) * 30), "1,2" + "; a b" * 30),
    (((1, 2), ((1, 1, 0), (0, 0)) * 15), "1,2" + "; b b a; a a" * 15),
]

OTHER_KINDS = [None, True, False, 0, 1, 1.5, [], (), {}, ["1 1,2 3,4"], ("1", "1,2", "3,4"), b"1 1,2 3,4", b"1; a a",
               ((1, 2, 0), ((3, 5), (77, 10006))), ((1,), ()), object(), str, len]

NO_RULES = [
    "", " ", ",", ";", "a", "1", "1 ", " 1", "1,2,0", "1 1,2",
    # A nought ahead.
    "01 1,2 3,4", "1,02 1,2 3,4", "00 1,2 3,4", "1 01,2 3,4", "1 1,02 3,4", "1 1,2 3,00", "1 1,2 3,4 00,1",
    # Signs.
    "+1 1,2 3,4", "-1 1,2 3,4", "-0 1,2 3,4", "1 +1,2 3,4", "1 1,-2 3,4", "1 1,2 3,+4", "1 1,2 3,-0",
    # Beyond the range.
    "10 1,2 3,4", "1,10 1,2 3,4", "1,2,99 1,2 3,4", "1 10007,2 3,4", "1 1,10007 3,4", "1 1,2 3,10007",
    "1 1,2 3,4 10007,1", "1 1,2 20000,4", "1 99999,1 3,4",
    # Of sixty figures and more.
    "9" * 60 + " 1,2 3,4", "9" * 61 + " 1,2 3,4", "1 " + "1" * 60 + ",2 3,4", "1 1,2 3," + "1" * 61, "1" * 1990 + " 1,2 3,4",
    # No figures.
    "a 1,2 3,4", " 1,2 3,4", ", 1,2 3,4", "1, 1,2 3,4", ",1 1,2 3,4", "1,,2 1,2 3,4", "1 ,2 3,4", "1 1, 3,4", "1 , 3,4",
    "1 x,2 3,4", "1 1,y 3,4", "1 1.0,2 3,4", "1 1e3,2 3,4", "1 0x1,2 3,4", "1 1_0,2 3,4", "1_0 1,2 3,4", "1 one,2 3,4",
    # Blanks.
    "1  1,2 3,4", "1 1,2  3,4", " 1 1,2 3,4", "1 1,2 3,4 ", "1 1,2 3,4  ", "1, 2 1,2 3,4", "1 1, 2 3,4", "1 1 ,2 3,4",
    "1 1,23,4", "11,2 3,4", "1\t1,2 3,4", "1 1,2\n3,4", "1 1,2 3,4\n", "\n1 1,2 3,4", "1 1,2 3,4\r", "1\u00a01,2 3,4",
    # Ways of one number or three, one way, four.
    "1 1 3,4", "1 1,2 3", "1 1,2,3 3,4", "1 1,2 3,4,5", "1 1,2 3,4 5", "1 1,2 3,4 5,6,7", "1 1,2 3,4 5,6 7,8",
    "1 1,2 3,4 5,6 7,8 9,10",
    # No rooms, eleven.
    "1,2 3,4", "1,1,1,1,1,1,1,1,1,1,1 1,2 3,4", "0,0,0,0,0,0,0,0,0,0,0,0 1,2 3,4",
    # Other signs.
    "1;2 1,2 3,4", "1.2 1,2 3,4", "1 1;2 3,4", "1 1:2 3,4", "1 (1,2) 3,4", "1 1,2, 3,4", "1,2,0; a b; c c a", "1; a a",
    "\u0661 1,2 3,4", "\u00b2 1,2 3,4", "\uff11 1,2 3,4", "1 \uff11,2 3,4", "\u00bd 1,2 3,4",
]

NO_WEBS = [
    "", " ", ";", "; ", ",", "a", "a b", "; a b", ";a b",
    # A nought ahead, a sign, beyond the range.
    "01; a a", "1,02; a b", "00", "+1; a a", "-1; a a", "-0", "10", "1,10", "1,2,10; a b", "9" * 60, "9" * 61, "1" * 1990,
    # No figures.
    ",1", "1,", "1,,2", "x", "1.0", "1_0", "0x1", "\u0661", "\u00b2", "\uff11; a a",
    # Blanks.
    " 1", "1 ", "1,2; a b ", "1,2;  a b", "1,2;a b", "1,2 ; a b", "1,2; a  b", "1,2; ab", "1,2; a b;b a", "1,2; a b; ",
    "1,2; ", "1,2;", "1,2; a b;", "1, 2; a b", "1 ,2; a b", "1,2;; a b", "1,2; ; a b", "1,2; a b; ; a b", "1,2 a b",
    "1,2, a b", "1,2; a\tb", "1,2; a b\n", "1,2;\na b", "1,2; a,b", "1,2; a-b",
    # Letters.
    "1,2; a c", "1,2; c a", "1,2; a b; a b c", "1; a b", "1; b b", "1,2; A B", "1,2; a B", "1,2; a ?", "1,2; a 0", "1,2; 0 1",
    "1,2; aa b", "1,2; a bb", "1,2; ab ab", "1,1,1,1,1,1,1,1,1,1; a k", "1,1,1,1,1,1,1,1,1,1; k k", "9,9,9,9,9,9,9,9,9,9; a z",
    "1,2; a \u0430", "1,2; a `", "1,2; a {",
    # Keys of one home or four.
    "1,2; a", "1,2; a b; b", "1,2; a b a b", "1,2; a b; a a a a", "1,2; a a a a a",
    # Too many keys, no rooms, eleven.
    "1,2" + "; a b" * 31, "1,2" + "; a b" * 60, "1,1,1,1,1,1,1,1,1,1,1", "1,1,1,1,1,1,1,1,1,1,1; a b",
    # Rules.
    "1 1,2 3,4", "1,2,0 3,5 77,10006",
]


class TextsCase(unittest.TestCase):
    def refused(self, read, text):
        with self.assertRaises(NestError, msg=(read, text)) as taken:
            read(text)
        self.assertIs(taken.exception.__class__, NoText, (read, text))


class ShowTest(TextsCase):
    def test_rules(self):
        for rule, text in RULES:
            self.assertEqual(show_rule(rule), text)

    def test_webs(self):
        for web, text in WEBS:
            self.assertEqual(show_web(web), text)


class ReadTest(TextsCase):
    def test_rules(self):
        for rule, text in RULES:
            self.assertEqual(read_rule(text), rule)
            self.assertIs(is_rule(read_rule(text)), True)

    def test_webs(self):
        for web, text in WEBS:
            self.assertEqual(read_web(text), web)
            self.assertIs(is_web(read_web(text)), True)

    def test_other_texts(self):
        for text in NO_RULES:
            self.refused(read_rule, text)
        for text in NO_WEBS:
            self.refused(read_web, text)

    def test_each_as_the_other(self):
        for _, text in RULES:
            self.refused(read_web, text)
        for _, text in WEBS:
            self.refused(read_rule, text)

    def test_what_is_no_text(self):
        for thing in OTHER_KINDS:
            self.refused(read_rule, thing)
            self.refused(read_web, thing)

    def test_texts_of_two_thousand_signs(self):
        for text in ("1" * 2000, " " * 2000, "a " * 1000, "; " * 1000, "1," * 1000, "1,2" + "; a b" * 399, "~" * 2000):
            self.refused(read_rule, text)
            self.refused(read_web, text)

    def test_texts_far_longer(self):
        for text in ("1" * 9000, "1,2 " + "3" * 9000 + ",1 2,3", "1; a a" * 2000):
            self.refused(read_rule, text)
            self.refused(read_web, text)


class ThereAndBackTest(TextsCase):
    def test_drawn_rules(self):
        for start in range(300):
            draw = Draw(start)
            rule = drawn_rule(draw, 1 + draw.below(10), 9)
            self.assertEqual(read_rule(show_rule(rule)), rule)

    def test_drawn_webs(self):
        for start in range(300):
            draw = Draw(start)
            web = drawn_web(draw, 1 + draw.below(10), draw.below(31), 9)
            self.assertEqual(read_web(show_web(web)), web)

    def changed(self, text):
        """Texts with one sign put in, left out or exchanged, or two beside one another turned about."""
        for at in range(len(text) + 1):
            for sign in " ,;0123456789abckzA+-.~":
                yield text[:at] + sign + text[at:]
                yield text[:at] + sign + text[at + 1:]
            yield text[:at] + text[at + 1:]
            yield text[:at] + text[at + 1:at + 2] + text[at:at + 1] + text[at + 2:]

    def check_changed(self, read, show, is_such, texts):
        let_by = 0
        for text in texts:
            for other in self.changed(text):
                try:
                    told = read(other)
                except NestError as refusal:
                    self.assertIs(refusal.__class__, NoText)
                else:
                    self.assertEqual(show(told), other)
                    self.assertIs(is_such(told), True)
                    let_by += 1
        self.assertGreater(let_by, 100)

    def test_a_sign_put_in_left_out_or_exchanged(self):
        self.check_changed(read_rule, show_rule, is_rule, [text for _, text in RULES])
        self.check_changed(read_web, show_web, is_web, [text for _, text in WEBS[:7]])

    def test_what_is_shown_of_another_is_never_refused(self):
        # Whatever makes a rule or a web is read; so what is refused shows none.
        for room in range(10):
            for number in (0, 1, 9, 10, 99, 100, 999, 1000, 9999, 10000, 10006):
                rule = ((room, 9 - room), ((number, 0), (0, number)))
                self.assertEqual(read_rule(show_rule(rule)), rule)
        for nest in range(10):
            web = ((1,) * 10, ((nest, 9 - nest), (nest, nest, 0)))
            self.assertEqual(read_web(show_web(web)), web)


if __name__ == "__main__":
    unittest.main()
