"""clockhouse.houses: which houses are let by, their steps, what a cell waits for."""

import unittest

from clockhouse.errors import NoHouse
from clockhouse.houses import look_house, rule_of, steps_of, waits_for
from tests.samples import Dice, at, house_of, if_, num, op, plain_reads, some_house, sum_of

GREATEST = 10**9
NAMES = ("a", "b", "c", "d", "e", "f")


def house_of_steps(many):
    """A house of two desks, with so many steps, the most of them of the first desk."""
    first = sum_of([at("a", k) for k in range(many - 1)])
    return house_of(("a", first), ("b", at("a", 0)))


def desks_of(many):
    return [(name, num(0)) for name in ("a", "b", "c", "d", "e", "f", "g", "h")[:many]]


class Refusals(unittest.TestCase):
    def refused(self, house, word, name):
        with self.assertRaises(NoHouse) as caught:
            look_house(house)
        self.assertEqual((caught.exception.word, caught.exception.name), (word, name), house)


class LetBy(unittest.TestCase):
    def test_one_and_six_desks(self):
        for many in range(1, 7):
            self.assertIs(look_house(house_of(*desks_of(many))), True)

    def test_one_to_three_directions(self):
        for ways in (1, 2, 3):
            self.assertIs(look_house(house_of(("a", at("a", *[1] * ways)), ways=ways)), True)

    def test_the_least_and_the_greatest_wheel(self):
        for wheel in (2, GREATEST):
            self.assertIs(look_house(house_of(("a", num(0)), wheel=wheel)), True)

    def test_the_least_and_the_greatest_number(self):
        self.assertIs(look_house(house_of(("a", op("+", num(0), num(GREATEST))))), True)

    def test_just_sixteen_steps(self):
        self.assertEqual(len(steps_of(house_of_steps(16))), 16)
        self.assertIs(look_house(house_of_steps(16)), True)

    def test_like_steps_count_once(self):
        rule = sum_of([at("a", k // 2) for k in range(32)])
        self.assertIs(look_house(house_of(("a", rule))), True)

    def test_reads_of_desks_ahead_and_behind_and_of_itself(self):
        self.assertIs(look_house(house_of(
            ("a", at("c", 0)), ("b", at("b", 1)), ("c", op("+", at("a", 0), at("b", 0))))), True)

    def test_rows_of_any_numbers(self):
        self.assertIs(look_house(house_of(("a", at("a", 999, -999)), ways=2)), True)

    def test_longest_names(self):
        self.assertIs(look_house(house_of(("zzzzzzzz", at("zzzzzzzz", 0)))), True)


class Refused(Refusals):
    def test_ways(self):
        for ways in (0, 4, -1, GREATEST, -GREATEST):
            self.refused(house_of(("a", num(0)), ways=ways), "ways", "")

    def test_wheel(self):
        for wheel in (1, 0, -2, GREATEST + 1, 10**30):
            self.refused(house_of(("a", num(0)), wheel=wheel), "wheel", "")

    def test_desks(self):
        self.refused(house_of(), "desks", "")
        for many in (7, 8):
            self.refused(house_of(*desks_of(many)), "desks", "")

    def test_name(self):
        for name in ("", "min", "max", "rest", "less", "if", "A", "a1", "a ", "a\n", "abcdefghi"):
            self.refused(house_of(("b", num(0)), (name, num(0))), "name", name)

    def test_a_name_that_a_desk_ahead_has(self):
        self.refused(house_of(("a", num(0)), ("b", num(0)), ("a", num(0))), "name", "a")
        self.refused(house_of(("b", num(0)), ("b", num(0)), ("a", num(0))), "name", "b")

    def test_number(self):
        for n in (-1, GREATEST + 1, -GREATEST, 10**30):
            self.refused(house_of(("a", num(n))), "number", "a")
            self.refused(house_of(("a", num(0)), ("b", if_(num(0), num(1), num(n)))), "number", "b")

    def test_read(self):
        for name in ("b", "", "min", "A"):
            self.refused(house_of(("a", at(name, 0))), "read", "a")
            self.refused(house_of(("c", num(0)), ("a", op("+", at("c", 0), at(name, 0)))), "read", "a")

    def test_row(self):
        for ways in (1, 2, 3):
            for many in (0, 1, 2, 3, 4):
                if many != ways:
                    self.refused(house_of(("a", at("a", *[0] * many)), ways=ways), "row", "a")

    def test_steps(self):
        for many in (17, 18, 30):
            self.assertEqual(len(steps_of(house_of_steps(many))), many)
            self.refused(house_of_steps(many), "steps", "")

    def test_steps_of_several_desks_are_counted_together(self):
        rule = sum_of([at("a", k) for k in range(6)])
        self.refused(house_of(("a", rule), ("b", rule), ("c", rule)), "steps", "")


class Order(Refusals):
    def test_ways_then_wheel_then_desks(self):
        bad = ("a", at("b", 0))
        self.refused((0, 1, ()), "ways", "")
        self.refused((1, 1, ()), "wheel", "")
        self.refused((4, 5, (bad,)), "ways", "")
        self.refused((1, 1, (("A", num(-1)),)), "wheel", "")
        self.refused((1, 2, tuple([bad] * 7)), "desks", "")

    def test_a_desks_name_ahead_of_its_rule(self):
        self.refused(house_of(("A", num(-1))), "name", "A")
        self.refused(house_of(("a", num(0)), ("a", at("q", 0))), "name", "a")

    def test_desk_by_desk(self):
        self.refused(house_of(("a", num(-1)), ("A", num(0))), "number", "a")
        self.refused(house_of(("a", at("q", 0)), ("a", num(0))), "read", "a")
        self.refused(house_of(("a", at("b", 0, 0)), ("b", num(-1))), "row", "a")
        self.refused(house_of(("a", num(0)), ("b", num(-1)), ("c", at("q", 0))), "number", "b")

    def test_in_a_rule_from_left_to_right(self):
        parts = {"number": num(-1), "read": at("q", 0), "row": at("a", 0, 0)}
        for word, part in parts.items():
            for other in parts.values():
                for sign in ("+", "less"):
                    self.refused(house_of(("a", op(sign, part, other))), word, "a")
                self.refused(house_of(("a", if_(part, other, other))), word, "a")
                self.refused(house_of(("a", if_(num(1), part, other))), word, "a")
                self.refused(house_of(("a", op("+", op("+", num(1), part), other))), word, "a")
                self.refused(house_of(("a", op("+", if_(num(1), num(1), part), op("+", other, other)))), word, "a")

    def test_a_read_with_name_and_row_amiss(self):
        self.refused(house_of(("a", at("q", 0, 0))), "read", "a")
        self.refused(house_of(("a", at("q"))), "read", "a")

    def test_a_read_of_a_desk_behind_whose_name_is_none(self):
        self.refused(house_of(("a", at("A", 0)), ("A", num(0))), "name", "A")

    def test_a_read_of_a_desk_behind(self):
        self.refused(house_of(("a", at("b", 0)), ("b", at("q", 0))), "read", "b")

    def test_steps_last(self):
        ways, wheel, desks = house_of_steps(20)
        self.refused((ways, wheel, desks + (("A", num(0)),)), "name", "A")
        self.refused((ways, wheel, desks + (("c", num(-1)),)), "number", "c")
        self.refused((ways, wheel, desks + (("c", at("q", 0)),)), "read", "c")
        self.refused((ways, wheel, desks + (("c", at("a")),)), "row", "c")
        self.refused((0, wheel, desks), "ways", "")


class Steps(unittest.TestCase):
    def test_without_steps(self):
        self.assertEqual(steps_of(house_of(("a", num(0)), ("b", op("+", num(0), num(1))))), ())

    def test_desk_by_desk_from_left_to_right(self):
        house = house_of(
            ("b", op("+", at("a", 1), at("b", -1))), ("c", num(1)), ("a", if_(at("c", 0), at("b", 2), at("a", 0))))
        self.assertEqual(steps_of(house), (
            ("b", "a", (1,)), ("b", "b", (-1,)), ("a", "c", (0,)), ("a", "b", (2,)), ("a", "a", (0,))))

    def test_each_but_once_where_it_stands_first(self):
        rule = op("+", op("+", at("a", 1), at("b", 0)), op("+", at("a", 1), op("*", at("a", 0), at("b", 0))))
        house = house_of(("a", rule), ("b", op("-", at("b", 0), at("b", 0))))
        self.assertEqual(steps_of(house), (
            ("a", "a", (1,)), ("a", "b", (0,)), ("a", "a", (0,)), ("b", "b", (0,))))

    def test_two_desks_with_like_reads_have_steps_of_their_own(self):
        house = house_of(("a", at("a", 1)), ("b", at("a", 1)))
        self.assertEqual(steps_of(house), (("a", "a", (1,)), ("b", "a", (1,))))

    def test_as_the_document_says_of_many_houses(self):
        dice = Dice(3)
        for turn in range(200):
            house = some_house(dice)
            steps = [(name,) + read for name, rule in house[2] for read in plain_reads(rule)]
            told = steps_of(house)
            self.assertIsInstance(told, tuple)
            self.assertEqual(told, tuple(dict.fromkeys(steps)))


class RuleOf(unittest.TestCase):
    def test_each_desks_own(self):
        rules = {name: op("+", num(k), at("a", k)) for k, name in enumerate(NAMES)}
        house = house_of(*rules.items())
        for name in NAMES:
            self.assertEqual(rule_of(house, name), rules[name])


class WaitsFor(unittest.TestCase):
    HOUSE = house_of(
        ("a", op("+", op("+", at("b", 1, -2), at("a", 0, -1)), at("b", 1, -2))),
        ("b", num(4)),
        ("c", if_(at("a", 0, 0), at("c", 2, 2), at("b", -1, 0))),
        ways=2)

    def test_one_cell_for_each_step_in_order(self):
        self.assertEqual(waits_for(self.HOUSE, ("a", (5, 7))), [("b", (6, 5)), ("a", (5, 6))])
        self.assertEqual(waits_for(self.HOUSE, ("c", (0, 0))), [("a", (0, 0)), ("c", (2, 2)), ("b", (-1, 0))])
        self.assertEqual(waits_for(self.HOUSE, ("c", (-1000, 1000))), [
            ("a", (-1000, 1000)), ("c", (-998, 1002)), ("b", (-1001, 1000))])

    def test_a_desk_without_steps(self):
        self.assertEqual(waits_for(self.HOUSE, ("b", (1, 1))), [])

    def test_each_count_of_directions(self):
        for ways in (1, 2, 3):
            house = house_of(("a", at("a", *range(1, ways + 1))), ways=ways)
            self.assertEqual(waits_for(house, ("a", tuple([10] * ways))), [("a", (11, 12, 13)[:ways])])

    def test_unlike_steps_that_lead_to_unlike_cells_keep_their_order(self):
        house = house_of(("a", op("+", at("b", 1), at("a", 1))), ("b", num(0)))
        self.assertEqual(waits_for(house, ("a", (0,))), [("b", (1,)), ("a", (1,))])

    def test_the_list_is_the_askers_own(self):
        first = waits_for(self.HOUSE, ("a", (5, 7)))
        self.assertIsInstance(first, list)
        first.clear()
        self.assertEqual(waits_for(self.HOUSE, ("a", (5, 7))), [("b", (6, 5)), ("a", (5, 6))])

    def test_along_the_steps_of_many_houses(self):
        dice = Dice(4)
        for turn in range(100):
            house = some_house(dice)
            place = tuple([dice.below(9) - 4 for way in range(house[0])])
            for name, rule in house[2]:
                cells = [(other, tuple(map(sum, zip(place, row)))) for own, other, row in steps_of(house) if own == name]
                self.assertEqual(waits_for(house, (name, place)), cells)


class AskedAgain(Refusals):
    def test_the_same_behind_other_questions(self):
        good, bad = house_of_steps(16), house_of_steps(17)
        steps, waits = steps_of(good), waits_for(good, ("a", (3,)))
        self.refused(bad, "steps", "")
        self.assertIs(look_house(good), True)
        self.assertEqual(waits_for(bad, ("a", (3,)))[:15], waits)
        self.assertEqual(steps_of(good), steps)
        self.assertEqual(waits_for(good, ("a", (3,))), waits)
        self.refused(bad, "steps", "")
        self.assertIs(look_house(good), True)


if __name__ == "__main__":
    unittest.main()
