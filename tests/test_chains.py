"""clockhouse.chains: a longest chain of cells each of which waits for the next one."""

import copy
import unittest

from clockhouse.chains import longest
from clockhouse.clockmaker import clock_of
from clockhouse.errors import Ring
from clockhouse.lots import box
from clockhouse.rounds import rounds_of
from tests.samples import (
    Dice, at, good_house, has_ring, house_of, house_with, is_ring, mixed, num, op, other_clock, paced_house, plain_waits,
    some_lot, stepped_house, stirred, wound_house,
)

COUNT = house_of(("a", op("+", at("a", -1), num(1))))


def row_of(*places):
    return [("a", (place,)) for place in places]


def longest_count(house, lot):
    """How many cells a longest chain of a lot without a ring has: cells are taken away that wait for none left."""
    left, many = list(lot), 0
    while left:
        left = [cell for cell in left if any(other in left for other in plain_waits(house, cell))]
        many += 1
    return many


class Chains(unittest.TestCase):
    def assert_chain(self, house, lot, many=None):
        """A longest chain, once it is seen to be one."""
        chain = longest(house, lot)
        self.assertIsInstance(chain, list)
        self.assertTrue(all(cell in lot for cell in chain))
        for cell, other in zip(chain, chain[1:]):
            self.assertIn(other, plain_waits(house, cell))
        self.assertEqual(len(chain), longest_count(house, lot) if many is None else many)
        return chain

    def assert_ring(self, house, lot):
        with self.assertRaises(Ring) as caught:
            longest(house, lot)
        self.assertTrue(is_ring(house, lot, caught.exception.cells))
        return caught.exception.cells


class Told(Chains):
    def test_no_cells(self):
        self.assertEqual(self.assert_chain(COUNT, []), [])

    def test_one_cell(self):
        self.assertEqual(self.assert_chain(COUNT, row_of(4)), row_of(4))

    def test_the_waiting_one_ahead(self):
        self.assertEqual(self.assert_chain(COUNT, row_of(1, 2, 0)), row_of(2, 1, 0))
        self.assertEqual(self.assert_chain(house_of(("a", at("a", 1))), row_of(1, 2, 0)), row_of(0, 1, 2))

    def test_a_gap(self):
        self.assertEqual(self.assert_chain(COUNT, row_of(0, 1, 3, 4, 5, 7)), row_of(5, 4, 3))

    def test_none_waits(self):
        self.assert_chain(COUNT, row_of(0, 2, 4), 1)
        self.assert_chain(house_of(("a", num(1)), ways=2), [("a", (0, 0)), ("a", (0, 1))], 1)

    def test_of_a_near_way_and_a_far_one_the_far_one(self):
        house = house_with("ab", [("a", "a", (-3,)), ("a", "b", (0,)), ("b", "b", (-1,))])
        far = [("a", (3,)), ("b", (3,)), ("b", (2,)), ("b", (1,))]
        for turn in range(6):
            self.assertEqual(self.assert_chain(house, stirred(Dice(turn), far + row_of(0))), far)

    def test_that_does_not_begin_at_the_first_cell_nor_end_at_the_last(self):
        house = house_of(("a", num(0)), ("b", at("a", 0)), ("c", at("b", 0)), ("d", num(1)))
        lot = [("d", (0,)), ("b", (0,)), ("a", (0,)), ("c", (0,)), ("d", (1,))]
        self.assertEqual(self.assert_chain(house, lot), [("c", (0,)), ("b", (0,)), ("a", (0,))])

    def test_three_hundred_rooms_in_a_row(self):
        row = row_of(*range(300))
        for lot in (row, row[::-1], stirred(Dice(91), row)):
            self.assertEqual(longest(COUNT, lot), row[::-1])
            self.assertEqual(longest(house_of(("a", at("a", 1))), lot), row)

    def test_a_box_of_two_directions(self):
        house = house_with("a", [("a", "a", (-1, 0)), ("a", "a", (0, -1))], 2)
        chain = self.assert_chain(house, box(house, (15, 20)), 34)
        self.assertEqual((chain[0], chain[-1]), (("a", (14, 19)), ("a", (0, 0))))

    def test_many_ways_at_each_cell(self):
        # Each cell waits for the eight on its left: by walking each way apart there would be no end to it.
        house = house_with("a", [("a", "a", (-k,)) for k in range(1, 9)])
        self.assert_chain(house, stirred(Dice(92), row_of(*range(300))), 300)


class Rings(Chains):
    def test_a_cell_that_waits_for_itself(self):
        self.assertEqual(self.assert_ring(house_of(("a", at("a", 0))), row_of(7)), row_of(7))

    def test_beside_a_chain(self):
        house = house_with("ab", [("a", "a", (-1,)), ("b", "b", (1,)), ("b", "b", (-1,))])
        lot = row_of(0, 1, 2, 3) + [("b", (5,)), ("b", (6,))]
        self.assertEqual(set(self.assert_ring(house, lot)), set(lot[4:]))
        self.assertEqual(self.assert_chain(house, lot[:5]), row_of(3, 2, 1, 0))

    def test_of_a_house_with_a_ring_a_lot_without_one(self):
        house = house_with("a", [("a", "a", (2,)), ("a", "a", (-1,))])
        self.assert_chain(house, row_of(0, 1), 2)
        self.assert_chain(house, row_of(0, 2), 2)
        self.assert_ring(house, row_of(2, 1, 0))

    def test_a_long_ring(self):
        house = house_with("abcd", [("a", "a", (1,)), ("a", "c", (0,)), ("b", "b", (-1,)), ("b", "d", (0,)),
                                    ("c", "b", (0,)), ("d", "a", (0,))])
        cells = row_of(*range(149)) + [("b", (k,)) for k in range(149)] + [("c", (148,)), ("d", (0,))]
        lot = stirred(Dice(93), cells)
        self.assertEqual(set(self.assert_ring(house, lot)), set(cells))
        self.assertEqual(len(longest(house, [cell for cell in lot if cell[0] != "d"])), 299)


class Many(Chains):
    def test_lots(self):
        dice = Dice(94)
        counts = {"told": 0, "ring": 0}
        for turn in range(500):
            house = dice.one_of((good_house, stepped_house, paced_house))(dice)
            lot = some_lot(dice, house)
            if has_ring(house, lot):
                self.assert_ring(house, lot)
                counts["ring"] += 1
            else:
                self.assert_chain(house, lot)
                counts["told"] += 1
        self.assertGreater(min(counts.values()), 60)

    def test_as_many_rounds_as_it_has_cells_or_more(self):
        dice = Dice(95)
        for turn in range(150):
            house = mixed(dice, dice.one_of((paced_house, wound_house))(dice))
            lot = some_lot(dice, house)
            clock = clock_of(house)[1]
            chain = self.assert_chain(house, lot)
            for other in (clock, other_clock(dice, clock)):
                rounds = rounds_of(lot, other)
                self.assertGreaterEqual(len(rounds), len(chain))
                self.assertTrue(all(len(set(cells) & set(chain)) <= 1 for cells in rounds))


class Stays(unittest.TestCase):
    def test_what_is_handed_in_and_what_is_told(self):
        dice = Dice(96)
        for turn in range(60):
            house = paced_house(dice)
            lot = some_lot(dice, house)
            kept = copy.deepcopy((house, lot))
            first = longest(house, lot)
            told = list(first)
            first.append("x")
            first.reverse()
            self.assertEqual((house, lot), kept)
            self.assertEqual(longest(house, lot), told)

    def test_a_ring_told_is_the_askers_own(self):
        house = house_with("ab", [("a", "b", (0,)), ("b", "a", (0,))])
        lot = [("a", (0,)), ("b", (0,))]
        told = []
        for turn in range(2):
            with self.assertRaises(Ring) as caught:
                longest(house, lot)
            told.append(list(caught.exception.cells))
            caught.exception.cells.clear()
            self.assertEqual(lot, [("a", (0,)), ("b", (0,))])
        self.assertEqual(told[0], told[1])


if __name__ == "__main__":
    unittest.main()
