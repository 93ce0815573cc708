"""clockhouse.lots: boxes, numbers at a rim, and whether numbers are an answer."""

import copy
import itertools
import unittest

from clockhouse.lots import box, fits, rim_number
from clockhouse.needs import reckoned
from tests.samples import (
    Dice, at, good_house, has_ring, house_of, if_, num, op, plain_cell_worth, some_lot, some_rim,
)

GREATEST = 10**9


def desks_house(many, ways):
    """A house of so many desks, whose names stand in no order."""
    return house_of(*[(name, num(k)) for k, name in enumerate(("f", "b", "zz", "a", "e", "c")[:many])], ways=ways)


def plain_box(house, sizes):
    places = sorted(itertools.product(*[range(size) for size in sizes]))
    return [(name, place) for place in places for name, rule in house[2]]


class Box(unittest.TestCase):
    def test_one_direction(self):
        self.assertEqual(box(desks_house(2, 1), (3,)), [
            ("f", (0,)), ("b", (0,)), ("f", (1,)), ("b", (1,)), ("f", (2,)), ("b", (2,))])

    def test_two_directions(self):
        self.assertEqual(box(desks_house(1, 2), (2, 3)), [
            ("f", (0, 0)), ("f", (0, 1)), ("f", (0, 2)), ("f", (1, 0)), ("f", (1, 1)), ("f", (1, 2))])

    def test_three_directions(self):
        self.assertEqual(box(desks_house(2, 3), (2, 1, 2)), [
            ("f", (0, 0, 0)), ("b", (0, 0, 0)), ("f", (0, 0, 1)), ("b", (0, 0, 1)),
            ("f", (1, 0, 0)), ("b", (1, 0, 0)), ("f", (1, 0, 1)), ("b", (1, 0, 1))])

    def test_a_size_of_0(self):
        for sizes in ((0,), (0, 3), (3, 0), (0, 0), (0, 2, 2), (2, 0, 2), (2, 2, 0), (0, 0, 0)):
            told = box(desks_house(2, len(sizes)), sizes)
            self.assertIsInstance(told, list)
            self.assertEqual(told, [])

    def test_a_size_of_0_beside_the_greatest(self):
        for sizes in ((300, 300, 0), (300, 0, 300), (0, 300, 300)):
            self.assertEqual(box(desks_house(6, 3), sizes), [])

    def test_sizes_of_1(self):
        for ways in (1, 2, 3):
            self.assertEqual(box(desks_house(2, ways), (1,) * ways), [("f", (0,) * ways), ("b", (0,) * ways)])

    def test_three_hundred_cells(self):
        for many, sizes in ((1, (300,)), (6, (50,)), (3, (10, 10)), (1, (1, 300)), (6, (5, 1, 10)), (1, (300, 1, 1))):
            house = desks_house(many, len(sizes))
            told = box(house, sizes)
            self.assertEqual(len(told), 300)
            self.assertEqual(told, plain_box(house, sizes))

    def test_numbers_of_two_figures_stand_as_numbers(self):
        self.assertEqual(box(desks_house(1, 1), (12,)), [("f", (k,)) for k in range(12)])

    def test_all_small_sizes(self):
        for ways in (1, 2, 3):
            for sizes in itertools.product(range(4), repeat=ways):
                house = desks_house(1 + sum(sizes) % 6, ways)
                self.assertEqual(box(house, sizes), plain_box(house, sizes))

    def test_the_list_is_the_askers_own(self):
        house = desks_house(2, 1)
        first = box(house, (2,))
        kept = list(first)
        first.clear()
        self.assertEqual(box(house, (2,)), kept)
        empty = box(house, (0,))
        empty.append("a")
        self.assertEqual(box(house, (0,)), [])


class RimNumber(unittest.TestCase):
    HOUSE = house_of(("a", num(0)), ("b", num(0)), ways=2)

    def test_below_the_wheel(self):
        for number in range(10):
            self.assertEqual(rim_number(self.HOUSE, {("a", (0, 1)): number}, ("a", (0, 1))), number)

    def test_at_and_beyond_the_wheel(self):
        for number in (10, 11, 19, 20, 25, GREATEST - 1, GREATEST):
            self.assertEqual(rim_number(self.HOUSE, {("a", (0, 1)): number}, ("a", (0, 1))), int(str(number)[-1]))

    def test_the_least_and_the_greatest_wheel(self):
        cell = ("a", (0,))
        for wheel, number, told in ((2, 0, 0), (2, 1, 1), (2, 2, 0), (2, 3, 1), (GREATEST, GREATEST - 1, GREATEST - 1),
                                    (GREATEST, GREATEST, 0)):
            self.assertEqual(rim_number(house_of(("a", num(0)), wheel=wheel), {cell: number}, cell), told)

    def test_a_cell_that_the_rim_lacks(self):
        self.assertEqual(rim_number(self.HOUSE, {}, ("a", (0, 1))), 0)
        self.assertEqual(rim_number(self.HOUSE, {("a", (0, 2)): 5}, ("a", (0, 1))), 0)

    def test_cells_alike_but_for_a_direction_or_the_name(self):
        rim = {("a", (0, 1)): 1, ("a", (0, -1)): 2, ("a", (1, 0)): 3, ("b", (0, 1)): 4, ("a", (1100, -1100)): 5}
        for cell, number in rim.items():
            self.assertEqual(rim_number(self.HOUSE, rim, cell), number)
        for cell in (("b", (0, -1)), ("b", (1, 0)), ("a", (0, 0)), ("a", (1, 1)), ("a", (-1100, -1100))):
            self.assertEqual(rim_number(self.HOUSE, rim, cell), 0)

    def test_the_rim_stays(self):
        rim = {("a", (0, 1)): 25}
        rim_number(self.HOUSE, rim, ("a", (0, 1)))
        rim_number(self.HOUSE, rim, ("a", (5, 5)))
        self.assertEqual(rim, {("a", (0, 1)): 25})


class Fits(unittest.TestCase):
    COUNT = house_of(("a", op("+", at("a", -1), num(1))))
    LOT = [("a", (2,)), ("a", (0,)), ("a", (1,))]

    def numbers(self, *told):
        return dict(zip(self.LOT, told))

    def test_an_answer(self):
        self.assertIs(fits(self.COUNT, self.LOT, {}, self.numbers(3, 1, 2)), True)
        self.assertIs(fits(self.COUNT, self.LOT, {("a", (-1,)): 7}, self.numbers(0, 8, 9)), True)

    def test_the_rims_rest_by_the_wheel(self):
        self.assertIs(fits(self.COUNT, self.LOT, {("a", (-1,)): 127}, self.numbers(0, 8, 9)), True)

    def test_none_of_other_numbers(self):
        good = self.numbers(3, 1, 2)
        for cell in self.LOT:
            for more in (1, -1, 10, -10, 20, 10**9, -(10**9)):
                self.assertIs(fits(self.COUNT, self.LOT, {}, {**good, cell: good[cell] + more}), False)

    def test_numbers_that_are_alike_by_the_wheel_alone(self):
        for told in ((13, 11, 12), (3, 11, 2), (-7, -9, -8), (13, 1, 2), (-7, 1, 2)):
            self.assertIs(fits(self.COUNT, self.LOT, {}, self.numbers(*told)), False)

    def test_a_number_that_no_cell_reads(self):
        house = house_of(("a", num(3)))
        for number in range(-20, 30):
            self.assertIs(fits(house, [("a", (0,))], {}, {("a", (0,)): number}), number == 3)

    def test_a_number_beyond_the_wheel_whose_readers_fit(self):
        house = house_of(("a", num(3)), ("b", op("*", at("a", 0), num(0))))
        lot = [("b", (0,)), ("a", (0,))]
        self.assertIs(fits(house, lot, {}, {lot[0]: 0, lot[1]: 3}), True)
        for number in (13, -7, 4):
            self.assertIs(fits(house, lot, {}, {lot[0]: 0, lot[1]: number}), False)

    def test_another_rim(self):
        for number in range(1, 10):
            self.assertIs(fits(self.COUNT, self.LOT, {("a", (-1,)): number}, self.numbers(3, 1, 2)), False)
        self.assertIs(fits(self.COUNT, self.LOT, {("a", (-1,)): 10}, self.numbers(3, 1, 2)), True)

    def test_cells_of_the_lot_are_passed_over_in_the_rim(self):
        rim = {cell: 5 for cell in self.LOT}
        self.assertIs(fits(self.COUNT, self.LOT, rim, self.numbers(3, 1, 2)), True)
        self.assertIs(fits(self.COUNT, self.LOT, rim, self.numbers(5, 5, 5)), False)
        self.assertIs(fits(self.COUNT, self.LOT, rim, self.numbers(6, 1, 6)), False)

    def test_no_cells(self):
        self.assertIs(fits(self.COUNT, [], {}, {}), True)
        self.assertIs(fits(self.COUNT, [], {("a", (0,)): 4}, {}), True)

    def test_a_lot_with_a_ring(self):
        house = house_of(("a", at("b", 0)), ("b", at("a", 0)))
        lot = [("a", (0,)), ("b", (0,))]
        for a, b in itertools.product(range(10), repeat=2):
            self.assertIs(fits(house, lot, {}, {lot[0]: a, lot[1]: b}), a == b)
        for number in (10, 11, -1, -10, 10**9, -(10**9)):
            self.assertIs(fits(house, lot, {}, {lot[0]: number, lot[1]: number}), False)
        odd = house_of(("a", op("+", at("a", 0), num(1))))
        for number in range(10):
            self.assertIs(fits(odd, [("a", (0,))], {}, {("a", (0,)): number}), False)

    def test_reads_of_one_desk_twice(self):
        house = house_of(("a", if_(at("a", -1), op("*", at("a", -1), at("b", 1)), at("b", 1))), ("b", num(4)))
        lot = [("b", (1,)), ("a", (0,))]
        for number in range(10):
            for rim, told in (({}, 4), ({("a", (-1,)): 2}, 8), ({("a", (-1,)): 13}, 2)):
                self.assertIs(fits(house, lot, rim, {lot[0]: 4, lot[1]: number}), number == told)

    def test_as_the_document_says_of_many_lots(self):
        dice = Dice(11)
        told = {True: 0, False: 0}
        for turn in range(300):
            house = good_house(dice)
            lot = some_lot(dice, house, 15)
            rim = some_rim(dice, house, lot)
            numbers = {cell: dice.below(house[1]) for cell in lot}
            if not has_ring(house, lot) and dice.below(4):
                numbers = dict(zip(lot, reckoned(house, lot, rim)[1]))
            if lot and dice.below(2):
                numbers[dice.one_of(lot)] += dice.one_of((1, -1, house[1], -house[1]))
            plain = all(0 <= numbers[cell] < house[1] for cell in lot) and all(
                numbers[cell] == plain_cell_worth(house, lot, rim, numbers, cell) for cell in lot)
            self.assertIs(fits(house, lot, rim, numbers), plain)
            told[plain] += 1
        self.assertGreater(min(told.values()), 50)


class Stays(unittest.TestCase):
    def test_what_is_handed_in(self):
        dice = Dice(12)
        for turn in range(60):
            house = good_house(dice)
            lot = some_lot(dice, house, 15)
            rim = some_rim(dice, house, lot)
            numbers = {cell: dice.below(house[1]) for cell in lot}
            things = copy.deepcopy((lot, list(rim.items()), list(numbers.items())))
            first = fits(house, lot, rim, numbers)
            fits(house, lot, {}, numbers)
            self.assertEqual((lot, list(rim.items()), list(numbers.items())), things)
            self.assertIs(fits(house, lot, rim, numbers), first)


if __name__ == "__main__":
    unittest.main()
