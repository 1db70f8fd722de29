"""Promise 4, and what promise 2 says of rules."""

import unittest

from keynests.errors import NestError, NoRule
from keynests.rules import homes, is_rule, rule_of

TWO_WAYS = ((3, 5), (77, 10006))
THREE_WAYS = ((3, 5), (77, 10006), (1, 0))
FAR = 10 ** 59


class Anything:
    pass


RULES = [
    ((1, 2, 0), TWO_WAYS),
    ((1, 2, 0), THREE_WAYS),
    ((0,), TWO_WAYS),
    ((9,), THREE_WAYS),
    ((0,) * 10, TWO_WAYS),
    ((9,) * 10, TWO_WAYS),
    ((0, 1, 2, 3, 4, 5, 6, 7, 8, 9), THREE_WAYS),
    ((1,), ((0, 0), (0, 0))),
    ((1,), ((10006, 10006), (10006, 10006))),
    ((1,), ((0, 10006), (10006, 0), (0, 0))),
]

OTHER_KINDS = [None, True, False, 0, 1, -1, 2, FAR, 1.0, "", "1,2", b"12", [], {}, {0: 1}, set(), (), object(), Anything(),
               Anything, len, range(2), NotImplemented, iter([1])]

NO_NUMBERS = [True, False, None, "1", "", 1.0, 1.5, [1], (1,), {}, object()]

WRONG_ROOMS = (
    [(), (1,) * 11, (0,) * 12, (-1,), (10,), (1, -1), (10, 1), (1, 2, 10), (FAR,), (-FAR,), (1, 10007)]
    + [(thing,) for thing in NO_NUMBERS]
    + [(1, thing, 2) for thing in NO_NUMBERS]
    + [[1, 2], [1], [], "12", {1: 2}, {1, 2}, range(1, 3), ((1, 2),)]
)

WRONG_WAYS = (
    [(), ((3, 5),), ((3, 5),) * 4, ((3, 5),) * 5]
    + [((3, 5), ()), ((3, 5), (3,)), ((3,), (3, 5)), ((3, 5), (3, 5, 7)), ((3, 5, 7), (3, 5)), (3, 5), ((3, 5), 3)]
    + [((3, 5), (3, 5), (3,)), ((3, 5), (3, 5), (3, 5, 7)), ((3, 5), (3, 5), None)]
    + [((-1, 5), (3, 5)), ((3, -1), (3, 5)), ((10007, 5), (3, 5)), ((3, 10007), (3, 5))]
    + [((3, 5), (-1, 5)), ((3, 5), (3, -1)), ((3, 5), (10007, 5)), ((3, 5), (3, 10007))]
    + [((3, 5), (3, 5), (-1, 5)), ((3, 5), (3, 5), (3, 10007)), ((3, 5), (FAR, 5)), ((3, 5), (3, -FAR))]
    + [((3, 5), (thing, 5)) for thing in NO_NUMBERS]
    + [((3, thing), (3, 5)) for thing in NO_NUMBERS]
    + [((3, 5), (3, 5), (thing, thing)) for thing in NO_NUMBERS]
    + [[(3, 5), (77, 10006)], ([3, 5], (77, 10006)), ((3, 5), [77, 10006]), ((3, 5), (3, 5), [3, 5]), ((3, 5), "35")]
    + ["35", {(3, 5): (3, 5)}, ((3, 5), {3: 5, 4: 6})]
)


class RuleOfTest(unittest.TestCase):
    def test_rules_are_made(self):
        for rule in RULES:
            made = rule_of(rule[0], rule[1])
            self.assertEqual(made, rule)
            self.assertIsInstance(made, tuple)
            self.assertIs(is_rule(made), True)

    def refused(self, rooms, ways):
        with self.assertRaises(NestError) as taken:
            rule_of(rooms, ways)
        self.assertIs(taken.exception.__class__, NoRule, (rooms, ways))

    def test_wrong_rooms_are_refused(self):
        for rooms in WRONG_ROOMS + OTHER_KINDS:
            self.refused(rooms, TWO_WAYS)
            self.refused(rooms, THREE_WAYS)

    def test_wrong_ways_are_refused(self):
        for ways in WRONG_WAYS + OTHER_KINDS:
            self.refused((1, 2, 0), ways)
            self.refused((9,), ways)

    def test_both_wrong_is_refused(self):
        for thing in OTHER_KINDS:
            self.refused(thing, thing)
        self.refused(TWO_WAYS, (1, 2, 0))

    def test_what_was_handed_in_is_unchanged(self):
        rooms, ways, way = [1, 2], [(3, 5), (7, 9)], [3, 5]
        self.refused(rooms, TWO_WAYS)
        self.refused((1,), ways)
        self.refused((1,), (way, (7, 9)))
        self.assertEqual((rooms, ways, way), ([1, 2], [(3, 5), (7, 9)], [3, 5]))


class IsRuleTest(unittest.TestCase):
    def test_rules(self):
        for rule in RULES:
            self.assertIs(is_rule(rule), True, rule)

    def test_wrong_rooms(self):
        for rooms in WRONG_ROOMS + OTHER_KINDS:
            self.assertIs(is_rule((rooms, TWO_WAYS)), False, rooms)

    def test_wrong_ways(self):
        for ways in WRONG_WAYS + OTHER_KINDS:
            self.assertIs(is_rule(((1, 2, 0), ways)), False, ways)

    def test_other_kinds(self):
        for thing in OTHER_KINDS:
            self.assertIs(is_rule(thing), False, thing)

    def test_a_part_more_or_less(self):
        self.assertIs(is_rule(((1, 2, 0),)), False)
        self.assertIs(is_rule(((1, 2, 0), TWO_WAYS, ())), False)
        self.assertIs(is_rule(((1, 2, 0), TWO_WAYS, TWO_WAYS)), False)

    def test_a_list_in_the_place_of_the_whole(self):
        self.assertIs(is_rule([(1, 2, 0), TWO_WAYS]), False)

    def test_parts_in_the_other_order(self):
        self.assertIs(is_rule((TWO_WAYS, (1, 2, 0))), False)

    def test_a_thing_within_itself(self):
        endless = []
        endless.append(endless)
        self.assertIs(is_rule(endless), False)
        self.assertIs(is_rule((endless, endless)), False)


def left_of(number, divisor):
    return number - number // divisor * divisor


def reckoned(rule, key):
    rooms, ways = rule
    told = []
    for factor, shift in ways:
        first = left_of(factor * key + shift, 10007)
        told.append(left_of(first, len(rooms)))
    return tuple(told)


KEYS = (
    list(range(40))
    + [10005, 10006, 10007, 10008, 20013, 20014, 20015, 10007 * 10007 - 1, 10007 * 10007, 10007 * 12345 - 1, 10007 * 12345]
    + [10 ** 59, 10 ** 60 - 1, 10 ** 60 // 10007 * 10007, 10 ** 60 // 10007 * 10007 - 1, int("1234567890" * 6)]
)


class HomesTest(unittest.TestCase):
    def test_written_out(self):
        rule = rule_of((1, 2, 0), ((3, 5), (77, 10006)))
        # 5 leaves 2 by 3; 10006 leaves 1.
        self.assertEqual(homes(rule, 0), (2, 1))
        # 8 leaves 2; 77 + 10006 = 10083 leaves 76 by 10007, and 76 leaves 1.
        self.assertEqual(homes(rule, 1), (2, 1))
        # 3 * 10006 + 5 = 30023 leaves 2; 77 * 10006 + 10006 = 780468 leaves 9929, and that 2.
        self.assertEqual(homes(rule, 10006), (2, 2))

    def test_three_ways_written_out(self):
        rule = rule_of((1,) * 10, ((1, 0), (0, 10006), (2, 3)))
        self.assertEqual(homes(rule, 0), (0, 6, 3))
        self.assertEqual(homes(rule, 9), (9, 6, 1))
        # 10006 leaves 6 by 10; 2 * 10006 + 3 = 20015 leaves 1 by 10007.
        self.assertEqual(homes(rule, 10006), (6, 6, 1))
        self.assertEqual(homes(rule, 10007), (0, 6, 3))
        self.assertEqual(homes(rule, 10010), (3, 6, 9))

    def test_the_number_of_nests_divides_behind_10007(self):
        # By 10 alone 10007 would leave 7, and by 10007 alone 10006 would be no nest.
        rule = rule_of((1,) * 10, ((1, 0), (1, 0)))
        self.assertEqual(homes(rule, 10007), (0, 0))
        self.assertEqual(homes(rule, 10006), (6, 6))

    def test_homes_may_be_alike(self):
        rule = rule_of((1, 1, 1, 1), ((5, 2), (5, 2), (5, 2)))
        self.assertEqual(homes(rule, 1), (3, 3, 3))

    def test_one_nest(self):
        for key in KEYS:
            self.assertEqual(homes(rule_of((4,), TWO_WAYS), key), (0, 0))
            self.assertEqual(homes(rule_of((4,), THREE_WAYS), key), (0, 0, 0))

    def test_by_the_documents_reckoning(self):
        ways = [TWO_WAYS, THREE_WAYS, ((0, 0), (10006, 10006)), ((10006, 0), (0, 10006), (5003, 5004))]
        for nests in range(1, 11):
            for some_ways in ways:
                rule = rule_of((1,) * nests, some_ways)
                for key in KEYS:
                    told = homes(rule, key)
                    self.assertEqual(told, reckoned(rule, key), (rule, key))
                    self.assertIsInstance(told, tuple)
                    self.assertEqual(len(told), len(some_ways))

    def test_rooms_do_not_matter_but_for_their_number(self):
        for key in KEYS:
            self.assertEqual(homes(((0, 9, 3), THREE_WAYS), key), homes(((1, 1, 1), THREE_WAYS), key))

    def test_homes_are_whole_numbers(self):
        for nest in homes(((1, 2, 0), THREE_WAYS), 10 ** 60 - 1):
            self.assertIs(nest.__class__, int)

    def test_a_key_beyond_sixty_figures_is_not_refused(self):
        rule = rule_of((1,) * 10, THREE_WAYS)
        self.assertEqual(homes(rule, 10 ** 70 + 3), reckoned(rule, 10 ** 70 + 3))


if __name__ == "__main__":
    unittest.main()
