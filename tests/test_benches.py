"""clockhouse.benches: plans of lots by a pace and a direction, and what was made led back."""

import copy
import unittest

from clockhouse.benches import led_back, plan_of
from clockhouse.errors import NoWay
from clockhouse.housetexts import read_house
from clockhouse.lots import box
from clockhouse.paces import bent, pace_of
from tests.samples import (
    Dice, at, hand_time, house_of, house_with, mixed, num, op, paced_house, plain_gain, plain_steps, plain_waits,
    some_lot, some_rim, stirred,
)

MOST = 10**9
COUNT = house_of(("a", op("+", at("a", -1), num(1))))
SUMS = house_with("s", [("s", "s", (-1, 0)), ("s", "s", (0, -1))], 2)


def cut(numbers, way):
    return tuple([number for k, number in enumerate(numbers) if k != way])


def plain_plan(house, lot, rim, row, hours, way):
    """plan_of, by the words of the document."""
    def work(cell):
        return (hand_time(row, hours, cell), cut(cell[1], way), cell[0])
    wires = [step[:2] + (cut(step[2], way), plain_gain(row, hours, step)) for step in plain_steps(house)]
    outside = {other for cell in lot for other in plain_waits(house, cell) if other not in lot}
    feeds = [work(cell) + (rim.get(cell, 0) % house[1],) for cell in outside]
    return (tuple(sorted([work(cell) for cell in lot])), tuple(wires), tuple(sorted(feeds)))


def some_pace(dice, house, way):
    """A pace of a house, bent to a direction, so many times over and with each hour so much later."""
    word, row, hours = pace_of(house)
    row, hours = bent(house, row, hours, way)
    more, many = dice.below(9) - 4, 1 + dice.below(3)
    return (tuple([many * number for number in row]), {name: many * hour + more for name, hour in hours.items()})


def some_plan(dice, most=2, cells=40):
    """(house, lot, rim, row, hours, way), what a plan is made of."""
    house = mixed(dice, paced_house(dice, most))
    lot = some_lot(dice, house, cells)
    way = dice.below(house[0])
    return (house, lot, some_rim(dice, house, lot)) + some_pace(dice, house, way) + (way,)


class PlanOf(unittest.TestCase):
    def assert_plan(self, *given):
        """The plan, once it is seen to be as the document has it."""
        told = plan_of(*given)
        self.assertIsInstance(told, tuple)
        self.assertEqual([type(part) for part in told], [tuple] * 3)
        self.assertEqual(told, plain_plan(*given))
        works, wires, feeds = told
        self.assertEqual(len(set(works)), len(given[1]))
        self.assertEqual(len({feed[:3] for feed in feeds} | set(works)), len(feeds) + len(works))
        self.assertTrue(all(wire[3] >= 1 for wire in wires))
        return told

    def test_one_direction(self):
        lot = [("a", (1,)), ("a", (0,))]
        self.assertEqual(plan_of(COUNT, lot, {("a", (-1,)): 14}, (2,), {"a": 5}, 0), (
            ((5, (), "a"), (7, (), "a")), (("a", "a", (), 2),), ((3, (), "a", 4),)))

    def test_two_directions(self):
        lot = [("s", (0, 0)), ("s", (0, 1)), ("s", (1, 0))]
        rim = {("s", (-1, 0)): 8, ("s", (1, -1)): 9}
        for way, feeds in ((0, ((-1, (-1,), "s", 0), (-1, (0,), "s", 8), (0, (-1,), "s", 9), (0, (1,), "s", 0))),
                           (1, ((-1, (-1,), "s", 8), (-1, (0,), "s", 0), (0, (-1,), "s", 0), (0, (1,), "s", 9)))):
            works, wires, told = self.assert_plan(SUMS, lot, rim, (1, 1), {"s": 0}, way)
            self.assertEqual(works, ((0, (0,), "s"), (1, (0,), "s"), (1, (1,), "s")))
            self.assertEqual(wires, (("s", "s", (0,) if way == 0 else (-1,), 1), ("s", "s", (-1,) if way == 0 else (0,), 1)))
            self.assertEqual(told, feeds)

    def test_three_directions(self):
        house = house_with("ab", [("a", "b", (1, -2, 3)), ("b", "a", (-3, -3, -2))], 3)
        lot = [("a", (4, 5, 6)), ("b", (7, 8, 9))]
        for way, bench, shift in ((0, (5, 6), (-2, 3)), (1, (4, 6), (1, 3)), (2, (4, 5), (1, -2))):
            works, wires, feeds = self.assert_plan(house, lot, {}, (2, 1, 1), {"a": 10, "b": 0}, way)
            self.assertIn((29, bench, "a"), works)
            self.assertEqual(wires[0], ("a", "b", shift, 7))
            self.assertEqual(wires[1][3], 1)

    def test_no_way(self):
        for lot in ([], [("s", (0, 0))]):
            with self.assertRaises(NoWay):
                plan_of(house_with("s", [("s", "s", (-1, 0))], 2), lot, {}, (1, 0), {"s": 0}, 1)
            with self.assertRaises(NoWay):
                plan_of(house_with("s", [("s", "s", (0, 0, 1))], 3), lot, {}, (0, 0, -1), {"s": 0}, 0)
        with self.assertRaises(NoWay):
            plan_of(house_of(("a", num(1))), [], {}, (0,), {"a": 0}, 0)
        self.assert_plan(house_with("s", [("s", "s", (-1, 0))], 2), [("s", (3, 4))], {}, (1, 0), {"s": 0}, 0)

    def test_no_cells(self):
        for way in (0, 1):
            self.assertEqual(self.assert_plan(SUMS, [], {("s", (0, 0)): 3}, (1, 1), {"s": 4}, way)[::2], ((), ()))

    def test_a_house_without_steps(self):
        house = house_of(("b", num(1)), ("a", num(2)))
        lot = [("b", (2,)), ("a", (-3,)), ("b", (-3,))]
        self.assertEqual(self.assert_plan(house, lot, {("a", (2,)): 1}, (-1,), {"a": 0, "b": 0}, 0), (
            ((-2, (), "b"), (3, (), "a"), (3, (), "b")), (), ()))

    def test_works_and_feeds_are_sorted_as_numbers(self):
        lot = stirred(Dice(111), [("a", (k,)) for k in range(-12, 120, 4)])
        works, wires, feeds = self.assert_plan(COUNT, lot, {}, (1,), {"a": 0}, 0)
        self.assertEqual([work[0] for work in works], list(range(-12, 120, 4)))
        self.assertEqual([feed[0] for feed in feeds], list(range(-13, 119, 4)))

    def test_a_feed_for_each_cell_once(self):
        house = house_with("ab", [("a", "b", (-1,)), ("a", "b", (-2,)), ("a", "b", (-3,))])
        lot = [("a", (k,)) for k in range(5)]
        feeds = self.assert_plan(house, lot, {("b", (k,)): 20 + k for k in range(-9, 9)}, (1,), {"a": 0, "b": 0}, 0)[2]
        self.assertEqual(feeds, tuple([(k, (), "b", (20 + k) % 10) for k in range(-3, 4)]))

    def test_cells_that_the_lot_does_not_read_are_not_fed(self):
        rim = {("a", (k,)): 5 for k in range(-1100, 1100)}
        feeds = self.assert_plan(COUNT, [("a", (3,)), ("a", (9,)), ("a", (10,))], rim, (1,), {"a": 0}, 0)[2]
        self.assertEqual(feeds, ((2, (), "a", 5), (8, (), "a", 5)))

    def test_cells_of_the_lot_are_passed_over_in_the_rim(self):
        rim = {("a", (k,)): 5 for k in range(4)}
        self.assertEqual(self.assert_plan(COUNT, [("a", (2,)), ("a", (1,)), ("a", (3,))], rim, (1,), {"a": 0}, 0)[2],
                         ((0, (), "a", 5),))

    def test_a_step_read_twice_has_one_wire(self):
        house = house_of(("a", op("*", at("a", -1), op("+", at("a", -2), at("a", -1)))))
        self.assertEqual(self.assert_plan(house, [("a", (0,))], {}, (3,), {"a": 0}, 0)[1:], (
            (("a", "a", (), 3), ("a", "a", (), 6)), ((-6, (), "a", 0), (-3, (), "a", 0))))

    def test_great_paces(self):
        lot = [("s", (1000, -1000)), ("s", (-1000, 1000)), ("s", (999, -1000))]
        self.assert_plan(SUMS, lot, {}, (MOST, MOST + 1), {"s": -MOST}, 1)

    def test_three_hundred_cells(self):
        lot = box(SUMS, (15, 20))
        works, wires, feeds = self.assert_plan(SUMS, lot, {}, (1, 1), {"s": 0}, 0)
        self.assertEqual((len(works), len(feeds)), (300, 35))

    def test_rows_of_999(self):
        house = read_house("house 2 10\ndesk a + a@999,-998 + a@-998,999 b@-999,-999\ndesk b 1")
        word, row, hours = pace_of(house)
        for way in (0, 1):
            self.assert_plan(house, [("a", (0, 0)), ("b", (1, 1))], {}, *bent(house, row, hours, way), way)

    def test_many(self):
        dice = Dice(112)
        seen = {}
        for turn in range(400):
            given = some_plan(dice, dice.one_of((1, 2, 2, 999)))
            works, wires, feeds = self.assert_plan(*given)
            seen[(given[0][0], given[5], given[3][given[5]] > 0)] = True
        self.assertEqual(len(seen), 12)


class LedBack(unittest.TestCase):
    def test_nothing_made(self):
        told = led_back([], (1, 2), {"a": 0}, 0)
        self.assertIsInstance(told, dict)
        self.assertEqual(told, {})

    def test_one_direction(self):
        made = [(5, (), "a", 3), (7, (), "a", 4)]
        self.assertEqual(led_back(made, (2,), {"a": 5}, 0), {("a", (0,)): 3, ("a", (1,)): 4})
        self.assertEqual(led_back(made, (-2,), {"a": 5}, 0), {("a", (0,)): 3, ("a", (-1,)): 4})

    def test_more_directions(self):
        for way, bench in ((0, (5, 6)), (1, (4, 6)), (2, (4, 5))):
            self.assertEqual(led_back([(10 + 8 - 15 + 42, bench, "a", 9)], (2, -3, 7), {"a": 10, "b": 0}, way),
                             {("a", (4, 5, 6)): 9})

    def test_just_what_was_made(self):
        made = [(3, (2,), "s", 8)]
        self.assertEqual(led_back(made, (1, 1), {"s": 0}, 0), {("s", (1, 2)): 8})
        self.assertEqual(led_back(made, (1, 1), {"s": 0}, 1), {("s", (2, 1)): 8})

    def test_great_numbers(self):
        row, hours = (MOST, -MOST - 1, 7), {"a": -MOST}
        for way in range(3):
            cell = ("a", (-1000, 999, 1000))
            work = (hand_time(row, hours, cell), cut(cell[1], way), "a")
            self.assertEqual(led_back([work + (MOST - 1,)], row, hours, way), {cell: MOST - 1})

    def test_of_many_plans(self):
        dice = Dice(113)
        seen = {}
        for turn in range(400):
            house, lot, rim, row, hours, way = some_plan(dice, dice.one_of((1, 2, 2, 999)))
            numbers = {cell: dice.below(house[1]) for cell in lot}
            made = sorted([(hand_time(row, hours, cell), cut(cell[1], way), cell[0], numbers[cell]) for cell in lot])
            self.assertEqual([work[:3] for work in made], list(plan_of(house, lot, rim, row, hours, way)[0]))
            self.assertEqual(led_back(made, row, hours, way), numbers)
            left = [work for work in made if dice.below(2)]
            self.assertEqual(len(led_back(left, row, hours, way)), len(left))
            seen[(house[0], way, row[way] > 0)] = True
        self.assertEqual(len(seen), 12)


class Stays(unittest.TestCase):
    def test_what_is_handed_in_and_what_is_told(self):
        dice = Dice(114)
        for turn in range(100):
            house, lot, rim, row, hours, way = some_plan(dice)
            kept = copy.deepcopy((house, lot, list(rim.items()), row, list(hours.items())))
            plan = plan_of(house, lot, rim, row, hours, way)
            made = [work + (1,) for work in plan[0]]
            first = led_back(made, row, hours, way)
            told = dict(first)
            self.assertEqual(made, [work + (1,) for work in plan[0]])
            first.clear()
            plan_of(house, lot, {}, row, hours, way)
            self.assertEqual((house, lot, list(rim.items()), row, list(hours.items())), kept)
            self.assertEqual(plan_of(house, lot, rim, row, hours, way), plan)
            self.assertEqual(led_back(made, row, hours, way), told)
            lot.clear()
            rim.clear()
            hours.clear()
            self.assertEqual(plan, plan_of(house, kept[1], dict(kept[2]), row, dict(kept[4]), way))


if __name__ == "__main__":
    unittest.main()
