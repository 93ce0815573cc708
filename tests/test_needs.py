"""clockhouse.needs: lots reckoned by need, rings in lots, and what a cell needs."""

import copy
import unittest

from clockhouse.lots import box, fits
from clockhouse.needs import needed, reckoned
from tests.samples import (
    Dice, at, good_house, has_ring, house_of, if_, num, op, plain_cell_worth, plain_needs, plain_waits, some_lot,
    some_rim, stepped_house, stirred,
)

COUNT = house_of(("a", op("+", at("a", -1), num(1))), wheel=10**9)
# By these a lot can have one ring alone, as long as it likes: forth along a, over by c, back along b, over by d.
ROUND = house_of(
    ("a", op("+", at("a", 1), at("c", 0))), ("b", op("+", at("b", -1), at("d", 0))), ("c", at("b", 0)), ("d", at("a", 0)))


def long_ring(many):
    """The cells of ROUND's ring over so many places."""
    forth = [("a", (k,)) for k in range(many)]
    back = [("b", (k,)) for k in reversed(range(many))]
    return forth + [("c", (many - 1,))] + back + [("d", (0,))]


class Asked(unittest.TestCase):
    def assert_told(self, house, lot, rim):
        """The lot's answer, once it is seen to be one."""
        told = reckoned(house, lot, rim)
        self.assertIsInstance(told, tuple)
        word, numbers = told
        self.assertEqual(word, "told")
        self.assertIsInstance(numbers, list)
        self.assertEqual(len(numbers), len(lot))
        answer = dict(zip(lot, numbers))
        for cell in lot:
            self.assertTrue(0 <= answer[cell] < house[1])
            self.assertEqual(answer[cell], plain_cell_worth(house, lot, rim, answer, cell))
        self.assertIs(fits(house, lot, rim, answer), True)
        return numbers

    def assert_ring(self, house, lot, rim):
        told = reckoned(house, lot, rim)
        self.assertIsInstance(told, tuple)
        word, cells = told
        self.assertEqual(word, "ring")
        self.assertIsInstance(cells, list)
        self.assertGreater(len(cells), 0)
        self.assertEqual(len(cells), len(set(cells)))
        for cell, other in zip(cells, cells[1:] + cells[:1]):
            self.assertIn(cell, lot)
            self.assertIn(other, plain_waits(house, cell))
        return cells


class Told(Asked):
    def test_no_cells(self):
        self.assertEqual(reckoned(COUNT, [], {}), ("told", []))
        self.assertEqual(reckoned(COUNT, [], {("a", (0,)): 3}), ("told", []))

    def test_in_the_lots_order(self):
        lot = [("a", (2,)), ("a", (0,)), ("a", (1,))]
        self.assertEqual(reckoned(COUNT, lot, {}), ("told", [3, 1, 2]))
        self.assertEqual(reckoned(COUNT, lot[::-1], {}), ("told", [2, 1, 3]))

    def test_by_the_rim(self):
        lot = [("a", (2,)), ("a", (0,)), ("a", (1,))]
        self.assertEqual(reckoned(COUNT, lot, {("a", (-1,)): 40}), ("told", [43, 41, 42]))
        self.assertEqual(reckoned(COUNT, lot, {("a", (-1,)): 10**9}), ("told", [3, 1, 2]))
        self.assertEqual(reckoned(COUNT, lot, {("a", (-2,)): 40}), ("told", [3, 1, 2]))

    def test_cells_of_the_lot_are_passed_over_in_the_rim(self):
        lot = [("a", (2,)), ("a", (0,)), ("a", (1,))]
        rim = {("a", (0,)): 70, ("a", (1,)): 80, ("a", (2,)): 90}
        self.assertEqual(reckoned(COUNT, lot, rim), ("told", [3, 1, 2]))

    def test_a_lot_with_a_gap(self):
        lot = [("a", (0,)), ("a", (2,)), ("a", (3,))]
        self.assertEqual(reckoned(COUNT, lot, {("a", (1,)): 40}), ("told", [1, 41, 42]))
        self.assertEqual(reckoned(COUNT, lot, {}), ("told", [1, 1, 2]))

    def test_a_triangle_of_sums(self):
        house = house_of(("s", if_(op("+", at("s", -1, 0), at("s", 0, -1)), op("+", at("s", -1, 0), at("s", 0, -1)),
                                   num(1))), ways=2, wheel=1000)
        self.assertEqual(self.assert_told(house, box(house, (4, 4)), {}), [
            1, 1, 1, 1, 1, 2, 3, 4, 1, 3, 6, 10, 1, 4, 10, 20])

    def test_three_hundred_cells_in_a_row(self):
        row = [("a", (k,)) for k in range(300)]
        for lot in (row, row[::-1], stirred(Dice(5), row)):
            numbers = self.assert_told(COUNT, lot, {("a", (-1,)): 1000})
            self.assertEqual(numbers, [1001 + place[0] for name, place in lot])

    def test_a_long_way_without_its_last_cell(self):
        cells = long_ring(149)
        self.assertEqual(len(cells), 300)
        for at_place in (0, 1, 148, 149, 150, 299):
            lot = stirred(Dice(6), cells[:at_place] + cells[at_place + 1:])
            self.assert_told(ROUND, lot, {cells[at_place]: 3})

    def test_a_cell_that_waits_for_itself_outside_the_lot_alone(self):
        house = house_of(("a", at("b", 0)), ("b", at("a", 0)))
        self.assertEqual(reckoned(house, [("a", (0,)), ("b", (1,))], {("b", (0,)): 4, ("a", (1,)): 7}), ("told", [4, 7]))


class Rings(Asked):
    def test_a_cell_that_waits_for_itself(self):
        house = house_of(("a", at("a", 0)))
        self.assertEqual(reckoned(house, [("a", (3,))], {("a", (3,)): 1}), ("ring", [("a", (3,))]))

    def test_two_cells(self):
        house = house_of(("a", at("b", 1)), ("b", at("a", -1)))
        self.assertEqual(set(self.assert_ring(house, [("b", (1,)), ("a", (0,))], {})), {("a", (0,)), ("b", (1,))})
        self.assert_told(house, [("a", (0,)), ("b", (0,))], {})

    def test_numbers_that_are_not_asked_for_are_waited_for(self):
        for rule in (if_(num(0), at("a", 0), num(1)), if_(num(1), num(1), at("a", 0)), op("*", num(0), at("a", 0))):
            self.assertEqual(reckoned(house_of(("a", rule)), [("a", (0,))], {}), ("ring", [("a", (0,))]))

    def test_cells_ahead_of_a_ring_and_behind_it_are_not_of_it(self):
        house = house_of(("a", at("b", 0)), ("b", op("+", at("c", 0), at("d", 0))), ("c", at("b", 0)), ("d", num(1)))
        lot = [(name, (0,)) for name in "abcd"]
        for turn in range(8):
            cells = self.assert_ring(house, stirred(Dice(turn), lot), {})
            self.assertEqual(set(cells), {("b", (0,)), ("c", (0,))})

    def test_in_the_way_of_waiting_not_of_being_read(self):
        cells = [(name, (0,)) for name in "abcd"]
        house = house_of(*[(name, at(other, 0)) for name, other in zip("abcd", "bcda")])
        told = self.assert_ring(house, cells[::-1], {})
        start = cells.index(told[0])
        self.assertEqual(told, cells[start:] + cells[:start])

    def test_a_ring_of_three_hundred_cells(self):
        cells = long_ring(149)
        for lot in (cells, cells[::-1], stirred(Dice(7), cells)):
            self.assertEqual(set(self.assert_ring(ROUND, lot, {})), set(cells))

    def test_just_where_there_is_one_in_many_lots(self):
        dice = Dice(13)
        counts = {"told": 0, "ring": 0}
        for turn in range(600):
            house = dice.one_of((good_house, stepped_house))(dice)
            lot = some_lot(dice, house)
            rim = some_rim(dice, house, lot)
            if has_ring(house, lot):
                self.assert_ring(house, lot, rim)
                counts["ring"] += 1
            else:
                self.assert_told(house, lot, rim)
                counts["told"] += 1
        self.assertGreater(min(counts.values()), 80)


class OneAnswer(Asked):
    def test_whatever_the_lots_order(self):
        dice = Dice(14)
        for turn in range(80):
            house = good_house(dice)
            lot = some_lot(dice, house)
            rim = some_rim(dice, house, lot)
            if not has_ring(house, lot):
                answer = dict(zip(lot, self.assert_told(house, lot, rim)))
                other = stirred(dice, lot)
                self.assertEqual(dict(zip(other, self.assert_told(house, other, rim))), answer)

    def test_another_number_anywhere_is_no_answer(self):
        dice = Dice(15)
        for turn in range(60):
            house = good_house(dice)
            lot = some_lot(dice, house, 12)
            rim = some_rim(dice, house, lot)
            if not has_ring(house, lot):
                answer = dict(zip(lot, self.assert_told(house, lot, rim)))
                for cell in lot:
                    for more in (1, -1, house[1], -house[1]):
                        self.assertIs(fits(house, lot, rim, {**answer, cell: answer[cell] + more}), False)


class Needed(unittest.TestCase):
    def assert_needed(self, house, lot, cell):
        told = needed(house, lot, cell)
        self.assertIsInstance(told, list)
        needs = plain_needs(house, lot, cell)
        self.assertEqual(told, [one for one in lot if one == cell or one in needs])
        return told

    def test_a_cell_that_waits_for_none(self):
        house = house_of(("a", num(1)))
        self.assertEqual(needed(house, [("a", (1,)), ("a", (0,))], ("a", (0,))), [("a", (0,))])

    def test_itself_and_all_behind_it_in_the_lots_order(self):
        lot = [("a", (1,)), ("a", (4,)), ("a", (0,)), ("a", (3,)), ("a", (2,))]
        self.assertEqual(needed(COUNT, lot, ("a", (2,))), [("a", (1,)), ("a", (0,)), ("a", (2,))])
        self.assertEqual(needed(COUNT, lot, ("a", (4,))), lot)
        self.assertEqual(needed(COUNT, lot, ("a", (0,))), [("a", (0,))])

    def test_ways_that_leave_the_lot_are_none(self):
        lot = [("a", (k,)) for k in (0, 1, 3, 4)]
        self.assertEqual(needed(COUNT, lot, ("a", (4,))), [("a", (3,)), ("a", (4,))])
        house = house_of(("a", op("+", at("b", 0), at("a", -2))), ("b", at("a", -1)))
        self.assertEqual(needed(house, [("a", (1,)), ("a", (0,))], ("a", (1,))), [("a", (1,))])

    def test_a_way_round_a_gap(self):
        house = house_of(("a", op("+", at("a", -1), at("a", -2))))
        lot = [("a", (k,)) for k in (0, 1, 3, 4, 7)]
        self.assertEqual(needed(house, lot, ("a", (4,))), lot[:4])
        self.assertEqual(needed(house, lot, ("a", (7,))), lot[4:])

    def test_where_there_is_a_ring(self):
        house = house_of(("a", at("b", 0)), ("b", op("+", at("a", 0), at("c", 0))), ("c", num(1)), ("d", at("a", 0)))
        lot = [(name, (0,)) for name in "dcab"]
        self.assertEqual(needed(house, lot, ("a", (0,))), [("c", (0,)), ("a", (0,)), ("b", (0,))])
        self.assertEqual(needed(house, lot, ("d", (0,))), lot)
        self.assertEqual(needed(house, lot, ("c", (0,))), [("c", (0,))])
        self.assertEqual(needed(house_of(("a", at("a", 0))), [("a", (5,))], ("a", (5,))), [("a", (5,))])

    def test_three_hundred_rooms_in_a_row(self):
        row = [("a", (k,)) for k in range(300)]
        for lot in (row, row[::-1], stirred(Dice(8), row)):
            self.assertEqual(needed(COUNT, lot, ("a", (299,))), lot)
            self.assertEqual(needed(COUNT, lot, ("a", (150,))), [cell for cell in lot if cell[1][0] <= 150])
        cells = long_ring(149)
        self.assertEqual(needed(ROUND, cells[::-1], cells[70]), cells[::-1])

    def test_in_many_lots(self):
        dice = Dice(16)
        for turn in range(150):
            house = good_house(dice)
            lot = some_lot(dice, house, 25)
            for cell in lot[:6]:
                self.assert_needed(house, lot, cell)


class Stays(unittest.TestCase):
    def test_what_is_handed_in_and_what_is_told(self):
        dice = Dice(17)
        for turn in range(80):
            house = good_house(dice)
            lot = some_lot(dice, house, 20)
            rim = some_rim(dice, house, lot)
            things = copy.deepcopy((house, lot, list(rim.items())))
            first = reckoned(house, lot, rim)
            needs = [needed(house, lot, cell) for cell in lot]
            kept = copy.deepcopy((first, needs))
            self.assertEqual((house, lot, list(rim.items())), things)
            first[1].clear()
            for cells in needs:
                cells.reverse()
                cells.append("x")
            self.assertEqual((house, lot, list(rim.items())), things)
            self.assertEqual((reckoned(house, lot, rim), [needed(house, lot, cell) for cell in lot]), kept)

    def test_asked_with_another_rim_and_then_with_the_first_one(self):
        lot = [("a", (1,)), ("a", (0,))]
        rim = {("a", (-1,)): 5}
        self.assertEqual(reckoned(COUNT, lot, rim), ("told", [7, 6]))
        self.assertEqual(reckoned(COUNT, lot, {("a", (-1,)): 8}), ("told", [10, 9]))
        self.assertEqual(reckoned(COUNT, lot, {}), ("told", [2, 1]))
        self.assertEqual(reckoned(COUNT, lot, rim), ("told", [7, 6]))
        rim[("a", (-1,))] = 6
        self.assertEqual(reckoned(COUNT, lot, rim), ("told", [8, 7]))
        lot.pop()
        self.assertEqual(reckoned(COUNT, lot, rim), ("told", [1]))

    def test_asked_of_another_house_and_then_of_the_first_one(self):
        lot = [("a", (1,)), ("a", (0,))]
        double = house_of(("a", op("*", at("a", -1), num(2))), wheel=10**9)
        rim = {("a", (-1,)): 5}
        for turn in range(2):
            self.assertEqual(reckoned(COUNT, lot, rim), ("told", [7, 6]))
            self.assertEqual(reckoned(double, lot, rim), ("told", [20, 10]))


if __name__ == "__main__":
    unittest.main()
