"""clockhouse.housetexts: the text of a house, and the house of a text."""

import unittest

from clockhouse.errors import NoHouse, NoText
from clockhouse.houses import look_house
from clockhouse.housetexts import read_house, show_house
from tests.samples import SIGNS, Dice, at, house_of, if_, num, op, plain_text, some_house

GREATEST = 10**9


def plain_throughout(thing):
    """Whether a thing is of tuples, texts and whole numbers alone."""
    if type(thing) is tuple:
        return all(plain_throughout(part) for part in thing)
    return type(thing) in (str, int)


class Shown(unittest.TestCase):
    def test_a_house_of_each_kind_of_part(self):
        house = house_of(
            ("sum", op("+", at("sum", -1, 0), op("less", num(12), at("rim", 2, -2)))),
            ("rim", if_(at("sum", 0, 0), num(0), op("rest", num(GREATEST), num(7)))),
            ways=2, wheel=97)
        self.assertEqual(show_house(house), (
            "house 2 97\n"
            "desk sum + sum@-1,0 less 12 rim@2,-2\n"
            "desk rim if sum@0,0 0 rest 1000000000 7"))

    def test_each_sign(self):
        for sign in SIGNS:
            house = house_of(("a", op(sign, num(1), num(2))))
            self.assertEqual(show_house(house), "house 1 10\ndesk a " + sign + " 1 2")

    def test_each_count_of_directions(self):
        self.assertEqual(show_house(house_of(("a", at("a", -7)))), "house 1 10\ndesk a a@-7")
        self.assertEqual(show_house(house_of(("a", at("a", 1, -2, 0)), ways=3)), "house 3 10\ndesk a a@1,-2,0")

    def test_bounds(self):
        house = house_of(("abcdefgh", at("abcdefgh", 999, -999)), ("b", num(GREATEST)), ways=2, wheel=GREATEST)
        self.assertEqual(show_house(house), (
            "house 2 1000000000\ndesk abcdefgh abcdefgh@999,-999\ndesk b 1000000000"))

    def test_desks_in_order_and_no_line_feed_at_the_end(self):
        house = house_of(*[(name, num(k)) for k, name in enumerate("fbdace")])
        self.assertEqual(show_house(house), (
            "house 1 10\ndesk f 0\ndesk b 1\ndesk d 2\ndesk a 3\ndesk c 4\ndesk e 5"))

    def test_as_the_document_says_of_many_houses(self):
        dice = Dice(5)
        for turn in range(200):
            house = some_house(dice, 999)
            self.assertEqual(show_house(house), plain_text(house))


class ReadAgain(unittest.TestCase):
    def read_again(self, house):
        told = read_house(show_house(house))
        self.assertEqual(told, house)
        self.assertTrue(plain_throughout(told), told)

    def test_bounds(self):
        for wheel in (2, GREATEST):
            for number in (0, 1, 9, 10, GREATEST):
                self.read_again(house_of(("abcdefgh", op("*", num(number), at("abcdefgh", 0))), wheel=wheel))

    def test_rows_to_999_either_way(self):
        for number in (0, 1, -1, 9, -9, 10, -10, 99, -100, 999, -999):
            self.read_again(house_of(("a", at("a", number, -number, 0)), ways=3))

    def test_names_near_the_words_of_rules(self):
        names = ("mi", "maxi", "rests", "les", "i", "desk")
        self.read_again(house_of(*[(name, op("min", at(name, 1), at("i", 0))) for name in names]))

    def test_twelve_parts_within_one_another(self):
        left = right = at("a", 0)
        for k in range(11):
            left, right = op("+", left, num(k)), if_(num(k), num(1), right)
        self.read_again(house_of(("a", left), ("b", right)))

    def test_sixteen_steps(self):
        rule = at("a", 0)
        for k in range(1, 16):
            rule = op("max", rule, at("a", k))
        self.read_again(house_of(("a", rule)))

    def test_many_houses(self):
        dice, read = Dice(6), 0
        for turn in range(400):
            house = some_house(dice, dice.one_of((2, 999)))
            try:
                look_house(house)
            except NoHouse as refusal:
                with self.assertRaises(NoHouse) as caught:
                    read_house(show_house(house))
                self.assertEqual(vars(caught.exception), vars(refusal))
                continue
            self.read_again(house)
            read += 1
        self.assertGreater(read, 200)

    def test_a_text_word_for_word(self):
        self.assertEqual(
            read_house("house 3 2\ndesk b - 4 if b@0,-1,20 less 0 c@1,1,1 10\ndesk c 3"),
            (3, 2, (
                ("b", op("-", num(4), if_(at("b", 0, -1, 20), op("less", num(0), at("c", 1, 1, 1)), num(10)))),
                ("c", num(3)))))


class NoTexts(unittest.TestCase):
    def refused(self, text, row):
        with self.assertRaises(NoText, msg=text[:200]) as caught:
            read_house(text)
        self.assertEqual(caught.exception.row, row, text[:200])

    def rule_refused(self, rule):
        self.refused("house 1 10\ndesk a " + rule, 1)
        self.refused("house 1 10\ndesk b 1\ndesk a " + rule + "\ndesk c 1", 2)


class RowsRefused(NoTexts):
    def test_the_empty_text(self):
        self.refused("", 0)

    def test_the_row_of_the_house_alone(self):
        self.refused("house 1 10", 1)
        self.refused("house 0 0", 1)

    def test_a_row_of_the_house_that_is_none(self):
        for row in (
                "house", "house 1", "house 1 10 5", "House 1 10", "home 1 10", "desk a 1", "1 10", "house  1 10",
                "house 1  10", " house 1 10", "house 1 10 ", "house\t1 10", "house 1,10", "house -1 10", "house 1 -10",
                "house +1 10", "house 01 10", "house 1 010", "house 1 00", "house -0 10", "house one 10", "house 1 x",
                "house 12345678901 10", "house 1 12345678901", "house 1 1.5", "house 1 1_0", "house 1 \u0663"):
            self.refused(row, 0)
            self.refused(row + "\ndesk a 1", 0)

    def test_a_desk_row_that_is_none(self):
        for row in (
                "", " ", "desk", "desk ", "desk a", "desk a ", "desk  1", "desk  a 1", "desk a  1", " desk a 1",
                "desk a 1 ", "desk\ta 1", "Desk a 1", "house 1 10", "a 1", "rule a 1", "desk a,1"):
            self.refused("house 1 10\n" + row, 1)
            self.refused("house 1 10\ndesk b 2\n" + row, 2)
            self.refused("house 1 10\ndesk b 2\n" + row + "\ndesk c 3", 2)

    def test_line_feeds(self):
        self.refused("house 1 10\ndesk a 1\n", 2)
        self.refused("house 1 10\n\ndesk a 1", 1)
        self.refused("\nhouse 1 10\ndesk a 1", 0)
        self.refused("house 1 10\n", 1)
        self.refused("\n", 0)
        self.refused("house 1 10\rdesk a 1", 0)

    def test_a_name_that_is_none(self):
        for name in ("min", "max", "rest", "less", "if", "A", "aB", "a1", "7", "abcdefghi", "a_b", "a@0", "+", "-1"):
            self.refused("house 1 10\ndesk " + name + " 1", 1)

    def test_the_first_of_several_rows(self):
        self.refused("house x 10\ndesk A 1\ndesk b", 0)
        self.refused("house 1 10\ndesk a 1\ndesk b 01\ndesk A 1", 2)
        self.refused("house 1 10\ndesk a 1\ndesk b 1\ndesk A 1\n", 3)
        self.refused("house 1 10\ndesk a +\ndesk b +", 1)

    def test_no_text_ahead_of_no_house(self):
        self.refused("house 0 10\ndesk a 1\ndesk b 01", 2)
        self.refused("house 1 0\ndesk a 1\n", 2)
        self.refused("house 1 10\ndesk a 9999999999\ndesk a 1\ndesk b q@0 7", 3)


class RulesRefused(NoTexts):
    def test_numbers(self):
        for word in ("00", "01", "007", "-0", "-1", "+1", "12345678901", "00000000000", "1.0", "1e3", "1_0", "0x1",
                     "1-", "--1", "\u0661", "\u00b2"):
            self.rule_refused(word)
            self.rule_refused("+ 1 " + word)

    def test_numbers_in_rows(self):
        for word in ("", "-", "00", "01", "-0", "-00", "-01", "+1", "1000", "-1000", "0999", "-0999", "12345", "a",
                     "1-", "--1", "1.", "0x1", "\u0661", "1_0"):
            for row in (word, word + ",0", "0," + word, "0," + word + ",0"):
                self.rule_refused("a@" + row)

    def test_reads(self):
        for word in ("a", "a@", "@", "@0", "a@@0", "a@0@0", "a@0,", "a@,0", "a@0,,0", "a@0;0", "a@(0)", "a0", "a 0",
                     "a@0 ,0", "a@ 0", "a @0", "A@0", "a1@0", "abcdefghi@0", "min@0", "max@0", "rest@0", "less@0",
                     "if@0", "+@0"):
            self.rule_refused(word)

    def test_words_that_lack(self):
        for sign in SIGNS:
            for rule in (sign, sign + " 1", sign + " " + sign + " 1 2", sign + " 1 " + sign + " 2"):
                self.rule_refused(rule)
        for rule in ("if", "if 1", "if 1 2", "if if 1 2 3 4", "if + 1 2 3", "+ if 1 2 3"):
            self.rule_refused(rule)

    def test_words_too_many(self):
        for rule in ("1 2", "a@0 a@0", "+ 1 2 3", "if 1 2 3 4", "1 +", "1 + 2", "1 2 +", "+ 1 2 +", "if 1 2 3 if",
                     "1 + 2 3", "+ + 1 2 3 4"):
            self.rule_refused(rule)

    def test_words_that_are_none(self):
        for rule in ("/", "+ 1 /", "% 1 2", "plus 1 2", "Min 1 2", "IF 1 2 3", "++ 1 2", "num 1", "at a 0", "()", "="):
            self.rule_refused(rule)

    def test_as_many_signs_as_there_is_room_for(self):
        for word in SIGNS + ("if",):
            row = (word + " ") * (3960 // (len(word) + 1))
            for end in ("", "1", "1 2", "x", "a@"):
                self.rule_refused((row + end).rstrip(" "))
            self.rule_refused(row)

    def test_a_long_rule_with_a_word_too_many_or_too_few(self):
        signs = 900
        for rule in ("+ " * signs + "1 " * signs + "1", "+ 1 " * signs + "1"):
            self.rule_refused(rule + " 1")
            self.rule_refused(rule[:-2])
            self.rule_refused("1 " + rule)

    def test_one_long_word(self):
        for word in ("+" * 3960, "a" * 3960, "1" * 3960, "a@" + "1" * 3960, "a@" + "1," * 1980, "-" * 3960, "@" * 3960):
            self.rule_refused(word)


class NoHouses(unittest.TestCase):
    def refused(self, text, word, name):
        with self.assertRaises(NoHouse, msg=text) as caught:
            read_house(text)
        self.assertEqual((caught.exception.word, caught.exception.name), (word, name), text)

    def test_ways(self):
        for ways in ("0", "4", "9999999999"):
            self.refused("house " + ways + " 10\ndesk a 1", "ways", "")

    def test_wheel(self):
        for wheel in ("0", "1", "1000000001", "9999999999"):
            self.refused("house 1 " + wheel + "\ndesk a 1", "wheel", "")

    def test_seven_desks(self):
        self.refused("house 1 10\n" + "\n".join(["desk " + name + " 1" for name in "abcdefg"]), "desks", "")

    def test_a_name_twice(self):
        self.refused("house 1 10\ndesk a 1\ndesk b 1\ndesk a 1", "name", "a")

    def test_a_number_of_ten_figures(self):
        self.refused("house 1 10\ndesk a 1000000001", "number", "a")
        self.refused("house 1 10\ndesk b 1\ndesk a + 1 9999999999", "number", "a")

    def test_a_desk_that_is_not_there(self):
        self.refused("house 1 10\ndesk a b@0", "read", "a")

    def test_a_row_of_other_length(self):
        self.refused("house 1 10\ndesk a a@0,0", "row", "a")
        self.refused("house 2 10\ndesk a a@0", "row", "a")
        self.refused("house 3 10\ndesk a a@0,0,0,0", "row", "a")

    def test_seventeen_steps(self):
        reads = ["a@" + str(k) for k in range(17)]
        self.refused("house 1 10\ndesk a " + "+ " * 16 + " ".join(reads), "steps", "")
        self.assertTrue(read_house("house 1 10\ndesk a " + "+ " * 16 + " ".join(reads[:16] + reads[:1])))

    def test_the_order(self):
        self.refused("house 0 0\ndesk a q@0", "ways", "")
        self.refused("house 1 0\ndesk a q@0", "wheel", "")
        self.refused("house 1 10\ndesk a + q@0,0 9999999999\ndesk a 1", "read", "a")


class AskedAgain(NoTexts):
    def test_the_same_behind_other_questions(self):
        text = "house 1 10\ndesk a + a@-1 b@0\ndesk b 3"
        house = read_house(text)
        self.refused("house 1 10\ndesk a + a@-1", 1)
        self.assertNotEqual(read_house("house 1 10\ndesk a + a@-1 a@0"), house)
        self.assertEqual(read_house(text), house)
        self.assertEqual(show_house(house), text)
        self.refused("house 1 10\ndesk a + a@-1", 1)
        self.assertEqual(show_house(house), text)


if __name__ == "__main__":
    unittest.main()
