"""clockhouse.rules: names, what a rule reads, and its worth."""

import unittest

from clockhouse.rules import is_name, reads, worth
from tests.samples import SIGNS, Dice, at, if_, num, op, plain_reads, plain_worth, some_rule

WORDS = ("min", "max", "rest", "less", "if")
GREATEST = 10**9


class IsName(unittest.TestCase):
    def test_names(self):
        for text in ("a", "z", "m", "ab", "abcdefgh", "zzzzzzzz", "desk", "house", "num", "at", "op"):
            self.assertIs(is_name(text), True, text)

    def test_each_letter(self):
        for letter in "abcdefghijklmnopqrstuvwxyz":
            self.assertIs(is_name(letter), True, letter)
            self.assertIs(is_name("if" + letter), True, letter)

    def test_lengths(self):
        for many in range(12):
            self.assertIs(is_name("q" * many), 1 <= many <= 8, many)
        self.assertIs(is_name("a" * 4000), False)

    def test_the_words_of_rules_are_no_names(self):
        for word in WORDS:
            self.assertIs(is_name(word), False, word)

    def test_words_with_a_letter_more_or_fewer(self):
        for word in WORDS:
            for text in (word + "a", "a" + word, word[1:], word[:-1], word + word[-1]):
                self.assertIs(is_name(text), True, text)

    def test_other_signs(self):
        for sign in "A Z 0 9 _ - + * @ , ; ` { ~".split(" ") + [" ", "\n", "\t"]:
            for text in (sign, sign + "a", "a" + sign, "a" + sign + "b"):
                self.assertIs(is_name(text), False, repr(text))

    def test_letters_of_other_scripts(self):
        for text in ("\u00e4", "a\u00df", "\u03b1"):
            self.assertIs(is_name(text), False, repr(text))


class Reads(unittest.TestCase):
    def test_a_rule_without_reads(self):
        for rule in (num(0), op("+", num(1), num(2)), if_(num(0), num(1), num(2))):
            self.assertEqual(reads(rule), ())
            self.assertIsInstance(reads(rule), tuple)

    def test_one_read(self):
        self.assertEqual(reads(at("a", -1, 2)), (("a", (-1, 2)),))

    def test_from_left_to_right_each_as_often_as_it_stands(self):
        rule = op("+", at("b", 1), op("-", at("a", 0), at("b", 1)))
        self.assertEqual(reads(rule), (("b", (1,)), ("a", (0,)), ("b", (1,))))

    def test_if_has_its_three_parts_in_order(self):
        self.assertEqual(reads(if_(at("c", 0), at("a", 1), at("b", 2))), (("c", (0,)), ("a", (1,)), ("b", (2,))))

    def test_op_and_if_within_one_another(self):
        inner = if_(op("*", at("a", 0), num(3)), at("b", 0), if_(at("c", 0), num(1), at("d", 0)))
        rule = op("less", inner, op("min", at("e", 0), inner))
        first = [(name, (0,)) for name in "abcd"]
        self.assertEqual(reads(rule), tuple(first + [("e", (0,))] + first))

    def test_rows_and_names_stay_as_they_are(self):
        self.assertEqual(reads(op("+", at("Any Name"), at("", 5, 5, 5, 5))), (("Any Name", ()), ("", (5, 5, 5, 5))))

    def test_as_the_document_says_of_many_rules(self):
        dice = Dice(1)
        for turn in range(400):
            rule = some_rule(dice, ("a", "b", "c"), 2, 4)
            told = reads(rule)
            self.assertIsInstance(told, tuple)
            self.assertEqual(list(told), plain_reads(rule))


class Worth(unittest.TestCase):
    def worths(self, sign, pairs, wheel=10):
        return [worth(op(sign, at("a", 0), at("b", 0)), [a, b], wheel) for a, b in pairs]

    def test_a_number(self):
        self.assertEqual(worth(num(7), [], 10), 7)
        self.assertEqual(worth(num(0), [], 2), 0)

    def test_a_number_greater_than_the_wheel(self):
        self.assertEqual(worth(num(10), [], 10), 0)
        self.assertEqual(worth(num(27), [], 10), 7)
        self.assertEqual(worth(num(GREATEST), [], 7), GREATEST % 7)
        self.assertEqual(worth(op("min", num(19), num(12)), [], 10), 2)

    def test_a_read(self):
        self.assertEqual(worth(at("a", 0), [9], 10), 9)

    def test_sum(self):
        self.assertEqual(self.worths("+", [(2, 3), (5, 5), (9, 9), (0, 0)]), [5, 0, 8, 0])

    def test_difference_from_0_on(self):
        self.assertEqual(self.worths("-", [(5, 3), (3, 5), (0, 9), (4, 4)]), [2, 8, 1, 0])

    def test_product(self):
        self.assertEqual(self.worths("*", [(2, 3), (9, 9), (5, 4), (0, 7)]), [6, 1, 0, 0])

    def test_lesser_and_greater(self):
        pairs = [(2, 3), (3, 2), (4, 4), (0, 9)]
        self.assertEqual(self.worths("min", pairs), [2, 2, 4, 0])
        self.assertEqual(self.worths("max", pairs), [3, 3, 4, 9])

    def test_rest(self):
        self.assertEqual(self.worths("rest", [(7, 3), (9, 3), (2, 5), (0, 4), (8, 1)]), [1, 0, 2, 0, 0])

    def test_rest_by_0(self):
        self.assertEqual(self.worths("rest", [(7, 0), (0, 0)]), [0, 0])
        self.assertEqual(worth(op("rest", num(7), num(10)), [], 10), 0)

    def test_less(self):
        self.assertEqual(self.worths("less", [(2, 3), (3, 2), (4, 4), (0, 0), (0, 9)]), [1, 0, 0, 0, 1])

    def test_if(self):
        rule = if_(at("c", 0), at("a", 0), at("b", 0))
        self.assertEqual([worth(rule, [c, 4, 6], 10) for c in range(10)], [6] + [4] * 9)
        self.assertEqual(worth(if_(num(20), num(4), num(6)), [], 10), 6)

    def test_numbers_stand_for_the_reads_from_left_to_right(self):
        rule = op("-", op("-", at("a", 0), at("a", 0)), if_(at("b", 0), at("a", 0), at("c", 1)))
        self.assertEqual(worth(rule, [90, 20, 1, 3, 4], 100), 67)
        self.assertEqual(worth(rule, [90, 20, 0, 3, 4], 100), 66)

    def test_a_branch_not_taken_still_has_its_reads(self):
        rule = op("+", if_(num(0), at("a", 0), num(1)), at("b", 0))
        self.assertEqual(worth(rule, [50, 7], 100), 8)

    def test_the_least_wheel(self):
        self.assertEqual(self.worths("+", [(1, 1)], 2), [0])
        self.assertEqual(self.worths("-", [(0, 1)], 2), [1])
        self.assertEqual(self.worths("*", [(1, 1)], 2), [1])
        self.assertEqual(self.worths("rest", [(1, 1)], 2), [0])
        self.assertEqual(self.worths("less", [(0, 1)], 2), [1])

    def test_the_greatest_wheel(self):
        top = GREATEST - 1
        self.assertEqual(worth(num(GREATEST), [], GREATEST), 0)
        self.assertEqual(self.worths("+", [(top, top)], GREATEST), [GREATEST - 2])
        self.assertEqual(self.worths("-", [(0, top)], GREATEST), [1])
        self.assertEqual(self.worths("*", [(top, top)], GREATEST), [1])
        self.assertEqual(self.worths("rest", [(top, 10)], GREATEST), [9])

    def test_twelve_parts_within_one_another(self):
        left, right = at("a", 0), at("a", 0)
        for k in range(11):
            left = op("+", left, num(1))
            right = op("-", num(1), right)
        self.assertEqual(worth(left, [5], 100), 16)
        self.assertEqual(worth(right, [5], 100), 96)
        self.assertEqual(reads(left), (("a", (0,)),))

    def test_the_numbers_handed_in_stay(self):
        numbers = [3, 4]
        rule = op("*", at("a", 0), at("b", 0))
        self.assertEqual(worth(rule, numbers, 10), 2)
        self.assertEqual(numbers, [3, 4])
        self.assertEqual(worth(rule, numbers, 10), 2)

    def test_as_the_document_says_of_many_rules(self):
        dice = Dice(2)
        for turn in range(1500):
            rule = some_rule(dice, ("a", "b"), 1, 4)
            wheel = dice.one_of((2, 3, 10, 1000, GREATEST))
            numbers = [dice.one_of((0, 1, wheel - 1, dice.below(wheel))) for read in reads(rule)]
            handed = list(numbers)
            self.assertEqual(worth(rule, handed, wheel), plain_worth(rule, list(numbers), wheel), rule)
            self.assertEqual(handed, numbers)


class AskedAgain(unittest.TestCase):
    def test_the_same_behind_other_questions(self):
        rules = [op(sign, at("a", 0), at("b", 1)) for sign in SIGNS]
        first = [(reads(rule), worth(rule, [7, 4], 10)) for rule in rules]
        self.assertEqual((is_name("min"), is_name("mind")), (False, True))
        self.assertEqual([(reads(rule), worth(rule, [7, 4], 10)) for rule in reversed(rules)], first[::-1])
        self.assertEqual((is_name("min"), is_name("mind")), (False, True))


if __name__ == "__main__":
    unittest.main()
