"""clockhouse.rings: a bundle's steps one behind the other, and the cells they lead to."""

import copy
import unittest

from clockhouse.clockmaker import clock_of
from clockhouse.errors import Loose, TooLong
from clockhouse.houses import steps_of
from clockhouse.needs import reckoned
from clockhouse.rings import ring_cells, ring_of
from tests.samples import (
    Dice, crossed_house, house_with, plain_hangs, plain_led, plain_waits, stepped_house, stirred, wound_house,
)
from tests.test_bundles import times_added, told_bundles

LINE = house_with("a", [("a", "a", (1,)), ("a", "a", (-1,))])
# The steps: a forth and back, a to b; b forth and back, b to a.
PAIR = house_with("ab", [("a", "a", (2,)), ("a", "a", (-1,)), ("a", "b", (0,)), ("b", "b", (1,)), ("b", "b", (-1,)),
                         ("b", "a", (0,))])


class Asked(unittest.TestCase):
    def assert_ring(self, house, amounts):
        """The ring of a bundle, once it is seen to be one."""
        steps = steps_of(house)
        ring = ring_of(house, amounts)
        self.assertIsInstance(ring, tuple)
        self.assertEqual(tuple([ring.count(number) for number in range(len(steps))]), amounts)
        self.assertEqual(len(ring), sum(amounts))
        for number, after in zip(ring, ring[1:] + ring[:1]):
            self.assertEqual(steps[number][1], steps[after][0])
        return ring

    def assert_too_long(self, house, amounts):
        with self.assertRaises(TooLong) as caught:
            ring_of(house, amounts)
        self.assertEqual(caught.exception.many, sum(amounts))

    def assert_cells(self, house, ring, place):
        """The cells of a ring from a place on, once they are seen to be its."""
        steps = steps_of(house)
        cells = ring_cells(house, ring, place)
        self.assertIsInstance(cells, list)
        walked = [(steps[ring[0]][0], place)]
        for number in ring:
            walked.append((steps[number][1], plain_led(walked[-1][1], steps[number][2])))
        self.assertEqual(walked[-1], walked[0])
        self.assertEqual(cells, list(dict.fromkeys(walked[:-1])))
        for cell in cells:
            self.assertTrue(set(plain_waits(house, cell)) & set(cells))
        return cells


class RingOf(Asked):
    def test_one_step(self):
        house = house_with("a", [("a", "a", (0,)), ("a", "a", (1,))])
        self.assertEqual(ring_of(house, (1, 0)), (0,))
        self.assertEqual(ring_of(house, (3, 0)), (0, 0, 0))

    def test_two_steps(self):
        self.assertEqual(sorted(self.assert_ring(LINE, (1, 1))), [0, 1])
        self.assert_ring(LINE, (7, 7))

    def test_round_about_through_desks(self):
        house = house_with("abc", [("a", "b", (1,)), ("b", "c", (1,)), ("c", "a", (-2,))])
        for many in (1, 2, 5):
            ring = self.assert_ring(house, (many,) * 3)
            start = ring[0]
            self.assertEqual(ring, tuple([start, (start + 1) % 3, (start + 2) % 3] * many))

    def test_ways_that_part_and_meet_again(self):
        self.assert_ring(PAIR, (1, 2, 1, 3, 3, 1))
        self.assert_ring(PAIR, (1, 0, 1, 0, 2, 1))
        self.assert_ring(PAIR, (2, 4, 5, 1, 1, 5))
        house = house_with("abcd", [("a", "b", (1,)), ("a", "c", (0,)), ("b", "a", (-1,)), ("b", "d", (2,)), ("c", "a", (0,)),
                                    ("d", "b", (-2,))])
        self.assert_ring(house, (1, 1, 1, 1, 1, 1))
        self.assert_ring(house, (2, 3, 2, 4, 3, 4))

    def test_the_first_desk_of_the_house_need_not_be_in_it(self):
        house = house_with("abc", [("a", "b", (1,)), ("b", "c", (0,)), ("c", "b", (0,))])
        self.assert_ring(house, (0, 1, 1))

    def test_two_thousand_steps(self):
        self.assert_ring(LINE, (1000, 1000))
        self.assert_ring(house_with("a", [("a", "a", (0,))]), (2000,))
        self.assert_ring(PAIR, (300, 600, 50, 500, 500, 50))
        self.assert_ring(house_with("ab", [("a", "b", (0,)), ("b", "a", (0,))]), (1000, 1000))

    def test_more_than_two_thousand(self):
        self.assert_too_long(house_with("a", [("a", "a", (0,))]), (2001,))
        self.assert_too_long(LINE, (1001, 1001))
        self.assert_too_long(LINE, (10**9, 10**9))
        self.assert_too_long(PAIR, (300, 600, 50, 501, 501, 50))

    def test_loose(self):
        for amounts in ((1, 2, 0, 1, 1, 0), (1, 0, 0, 0, 2, 0), (333, 666, 0, 500, 500, 0)):
            with self.assertRaises(Loose):
                ring_of(PAIR, amounts)

    def test_too_long_ahead_of_loose(self):
        self.assert_too_long(PAIR, (334, 668, 0, 500, 500, 0))
        self.assert_too_long(PAIR, (10**8, 2 * 10**8, 0, 1, 1, 0))
        with self.assertRaises(Loose):
            ring_of(PAIR, (334, 668, 0, 499, 499, 0))

    def test_of_many_bundles(self):
        dice = Dice(71)
        counts = {"ring": 0, "loose": 0, "long": 0}
        for turn in range(300):
            house = dice.one_of((stepped_house, wound_house, crossed_house))(dice)
            bundles = told_bundles(house)
            for ones in bundles[:4]:
                amounts = times_added(1 + dice.below(4), ones, dice.one_of((0, 1, 2, 1000)), dice.one_of(bundles))
                if sum(amounts) > 2000:
                    self.assert_too_long(house, amounts)
                    counts["long"] += 1
                elif plain_hangs(house, amounts):
                    self.assert_ring(house, amounts)
                    counts["ring"] += 1
                else:
                    with self.assertRaises(Loose):
                        ring_of(house, amounts)
                    counts["loose"] += 1
        self.assertGreater(min(counts.values()), 30)


class RingCells(Asked):
    def test_one_step(self):
        house = house_with("a", [("a", "a", (0, 0))], 2)
        self.assertEqual(ring_cells(house, (0,), (4, -5)), [("a", (4, -5))])
        self.assertEqual(ring_cells(house, (0, 0, 0), (4, -5)), [("a", (4, -5))])

    def test_there_and_back(self):
        self.assertEqual(ring_cells(LINE, (0, 1), (0,)), [("a", (0,)), ("a", (1,))])
        self.assertEqual(ring_cells(LINE, (1, 0), (0,)), [("a", (0,)), ("a", (-1,))])
        self.assertEqual(ring_cells(LINE, (0, 1), (-7,)), [("a", (-7,)), ("a", (-6,))])

    def test_the_first_steps_name_at_the_place_ahead(self):
        house = house_with("abc", [("a", "b", (1,)), ("b", "c", (1,)), ("c", "a", (-2,))])
        self.assertEqual(ring_cells(house, (1, 2, 0), (5,)), [("b", (5,)), ("c", (6,)), ("a", (4,))])
        self.assertEqual(ring_cells(house, (0, 1, 2), (5,)), [("a", (5,)), ("b", (6,)), ("c", (7,))])

    def test_each_cell_but_once_where_it_stands_first(self):
        self.assertEqual(ring_cells(LINE, (0, 0, 1, 1), (0,)), [("a", (0,)), ("a", (1,)), ("a", (2,))])
        self.assertEqual(ring_cells(LINE, (0, 1, 1, 0), (0,)), [("a", (0,)), ("a", (1,)), ("a", (-1,))])

    def test_cells_of_two_desks_in_one_room(self):
        self.assertEqual(ring_cells(PAIR, (2, 5), (3,)), [("a", (3,)), ("b", (3,))])

    def test_a_long_one(self):
        ring = (0,) * 1000 + (1,) * 1000
        self.assertEqual(self.assert_cells(LINE, ring, (0,)), [("a", (k,)) for k in range(1001)])

    def test_of_many_houses(self):
        dice = Dice(72)
        many = 0
        for turn in range(250):
            house = dice.one_of((stepped_house, crossed_house))(dice)
            word, told = clock_of(house)
            if word == "ring" and sum(told) <= 400:
                ring = self.assert_ring(house, told)
                place = tuple([dice.below(2001) - 1000 for way in range(house[0])])
                for start in (0, dice.below(len(ring))):
                    cells = self.assert_cells(house, ring[start:] + ring[:start], place)
                    self.assertEqual(reckoned(house, stirred(dice, cells), {})[0], "ring")
                many += 1
        self.assertGreater(many, 60)


class Stays(unittest.TestCase):
    def test_what_is_told_is_told_again(self):
        dice = Dice(73)
        for turn in range(80):
            house = crossed_house(dice)
            word, told = clock_of(house)
            if word == "ring":
                kept = copy.deepcopy((house, told))
                ring = ring_of(house, told)
                cells = ring_cells(house, ring, (0,) * house[0])
                first = list(cells)
                cells.clear()
                self.assertEqual((house, told), kept)
                self.assertEqual(ring_of(house, told), ring)
                self.assertEqual(ring_cells(house, ring, (0,) * house[0]), first)


if __name__ == "__main__":
    unittest.main()
