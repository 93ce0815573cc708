"""clockhouse.rounds: a lot's rounds by a clock, and the lot run round by round."""

import copy
import unittest

from clockhouse.clockmaker import clock_of
from clockhouse.clocks import first_late
from clockhouse.errors import Early
from clockhouse.lots import fits
from clockhouse.needs import reckoned
from clockhouse.rounds import rounds_of, run_by
from tests.samples import (
    Dice, at, good_house, house_of, house_with, mixed, num, op, other_clock, paced_house, plain_cell_worth, plain_time,
    plain_waits, some_clock, some_lot, some_rim, stepped_house, stirred, wound_house,
)

MOST = 10**9
COUNT = house_of(("a", op("+", at("a", -1), num(1))), wheel=MOST)
FORTH = {"a": (0, (((1,), 0),))}
BACK = {"a": (0, (((-1,), 0),))}
STILL = {"a": (0, ())}


def plain_rounds(lot, clock):
    times = sorted({plain_time(clock, cell) for cell in lot})
    return [[cell for cell in lot if plain_time(clock, cell) == time] for time in times]


def plain_run(house, lot, rim, clock, turn):
    """The numbers, a list; or the cell that is done too early, by the words of the document."""
    numbers = {}
    for cells in plain_rounds(lot, clock):
        for k in range(len(cells)):
            cell = cells[(turn + k) % len(cells)]
            if any(other in lot and other not in numbers for other in plain_waits(house, cell)):
                return cell
            numbers[cell] = plain_cell_worth(house, lot, rim, numbers, cell)
    return [numbers[cell] for cell in lot]


def row_of(*places):
    return [("a", (place,)) for place in places]


class RoundsOf(unittest.TestCase):
    def test_no_cells(self):
        for clock in (FORTH, STILL):
            told = rounds_of([], clock)
            self.assertIsInstance(told, list)
            self.assertEqual(told, [])

    def test_the_earlier_time_first(self):
        lot = row_of(1, -2, 0)
        self.assertEqual(rounds_of(lot, FORTH), [row_of(-2), row_of(0), row_of(1)])
        self.assertEqual(rounds_of(lot, BACK), [row_of(1), row_of(0), row_of(-2)])

    def test_times_as_numbers_not_as_they_are_written(self):
        self.assertEqual(rounds_of(row_of(10, 9, 100, -1, -10), FORTH), [row_of(k) for k in (-10, -1, 9, 10, 100)])

    def test_a_clock_without_hands(self):
        self.assertEqual(rounds_of(row_of(3, 1, 2), STILL), [row_of(3, 1, 2)])
        lot = [("a", (0,)), ("b", (5,)), ("a", (-4,)), ("c", (1,)), ("b", (0,))]
        clock = {"a": (7, ()), "b": (-2, ()), "c": (7, ())}
        self.assertEqual(rounds_of(lot, clock), [[lot[1], lot[4]], [lot[0], lot[2], lot[3]]])

    def test_in_each_the_lots_order(self):
        lot = [("a", (1, 0)), ("a", (0, 1)), ("a", (0, 0)), ("a", (-1, 2)), ("a", (2, -1))]
        clock = {"a": (0, (((1, 1), 0),))}
        self.assertEqual(rounds_of(lot, clock), [[lot[2]], [lot[0], lot[1], lot[3], lot[4]]])
        self.assertEqual(rounds_of(lot[::-1], clock), [[lot[2]], [lot[4], lot[3], lot[1], lot[0]]])

    def test_the_knot_ahead_of_the_hands_and_a_hand_ahead_of_the_next(self):
        lot = [("a", (0, 9)), ("b", (9, 9)), ("a", (0, -9)), ("a", (-1, 99))]
        clock = {"a": (1, (((1, 0), 0), ((0, 1), 0))), "b": (0, (((1, 0), 500), ((0, 1), 500)))}
        self.assertEqual(rounds_of(lot, clock), [[lot[1]], [lot[3]], [lot[2]], [lot[0]]])

    def test_cells_of_unlike_desks_with_one_time(self):
        clock = {"a": (0, (((1,), 2),)), "b": (0, (((3,), 0),))}
        lot = [("b", (1,)), ("a", (1,)), ("b", (0,)), ("a", (-2,))]
        self.assertEqual(rounds_of(lot, clock), [[lot[2], lot[3]], [lot[0], lot[1]]])

    def test_great_numbers(self):
        clock = {"a": (-MOST, tuple([((MOST, -MOST), k * MOST) for k in range(6)]))}
        lot = [("a", (1000, -1000)), ("a", (-1000, 1000)), ("a", (999, -1000)), ("a", (1000, -999)), ("a", (0, 0))]
        self.assertEqual(rounds_of(lot, clock), [[lot[1]], [lot[4]], [lot[2], lot[3]], [lot[0]]])

    def test_three_hundred_cells(self):
        lot = stirred(Dice(81), row_of(*range(300)))
        self.assertEqual(rounds_of(lot, FORTH), [[cell] for cell in row_of(*range(300))])
        self.assertEqual(rounds_of(lot, STILL), [lot])

    def test_by_many_clocks(self):
        dice = Dice(82)
        hands = {}
        for turn in range(300):
            house = stepped_house(dice)
            lot = some_lot(dice, house)
            clock = some_clock(dice, house)
            told = rounds_of(lot, clock)
            self.assertTrue(all(isinstance(cells, list) for cells in told))
            self.assertEqual(told, plain_rounds(lot, clock))
            hands[len(clock[house[2][0][0]][1])] = True
        self.assertEqual(set(hands), set(range(7)))

    def test_the_lists_told_are_the_askers_own(self):
        lot = row_of(3, 1, 2)
        for clock in (FORTH, STILL):
            first = rounds_of(lot, clock)
            kept = copy.deepcopy(first)
            for cells in first:
                cells.append("x")
            first.clear()
            self.assertEqual(lot, row_of(3, 1, 2))
            self.assertEqual(rounds_of(lot, clock), kept)


class Run(unittest.TestCase):
    def assert_early(self, cell, house, lot, clock, turn=0, rim=None):
        with self.assertRaises(Early) as caught:
            run_by(house, lot, rim or {}, clock, turn)
        self.assertEqual(caught.exception.cell, cell)

    def assert_run(self, house, lot, rim, clock, turn):
        """The word told or early, once the run is seen to be as the document has it."""
        plain = plain_run(house, lot, rim, clock, turn)
        if isinstance(plain, tuple):
            self.assert_early(plain, house, lot, clock, turn, rim)
            return "early"
        told = run_by(house, lot, rim, clock, turn)
        self.assertIsInstance(told, list)
        self.assertEqual(told, plain)
        return "told"


class Told(Run):
    def test_no_cells(self):
        self.assertEqual(run_by(COUNT, [], {("a", (0,)): 1}, FORTH, 5), [])

    def test_in_the_lots_order(self):
        self.assertEqual(run_by(COUNT, row_of(2, 0, 1), {}, FORTH, 0), [3, 1, 2])
        self.assertEqual(run_by(COUNT, row_of(1, 0, 2), {("a", (-1,)): 40}, FORTH, 0), [42, 41, 43])

    def test_the_rims_rest_by_the_wheel(self):
        house = house_of(("a", op("+", at("a", -1), num(1))))
        self.assertEqual(run_by(house, row_of(0, 1), {("a", (-1,)): 127}, FORTH, 0), [8, 9])

    def test_cells_of_the_lot_are_passed_over_in_the_rim(self):
        rim = {cell: 70 for cell in row_of(-1, 0, 1, 2)}
        self.assertEqual(run_by(COUNT, row_of(2, 0, 1), rim, FORTH, 0), [73, 71, 72])

    def test_a_rim_does_not_do_what_was_not_done(self):
        self.assert_early(("a", (1,)), COUNT, row_of(0, 1), BACK, rim={cell: 70 for cell in row_of(-1, 0, 1)})

    def test_three_hundred_cells_in_a_row(self):
        for lot in (row_of(*range(300)), row_of(*reversed(range(300))), stirred(Dice(83), row_of(*range(300)))):
            self.assertEqual(run_by(COUNT, lot, {}, FORTH, 7), [1 + place[0] for name, place in lot])

    def test_by_a_clock_that_is_not_let_by_but_serves_the_lot(self):
        clock = {"a": (0, (((0,), 0),))}
        self.assertIsNotNone(first_late(COUNT, clock))
        self.assertEqual(run_by(COUNT, row_of(0, 2, 4), {}, clock, 2), [1, 1, 1])
        self.assertEqual(run_by(COUNT, row_of(0, 1, 2), {}, clock, 0), [1, 2, 3])


class Turns(Run):
    # All in one round: each waits for the one on its left, where that one is of the lot.
    LOT = row_of(1, 2, 0)

    def test_begun_at_the_turns_place(self):
        self.assertEqual(run_by(COUNT, self.LOT, {}, STILL, 2), [2, 3, 1])
        self.assert_early(("a", (1,)), COUNT, self.LOT, STILL, 0)
        self.assert_early(("a", (2,)), COUNT, self.LOT, STILL, 1)

    def test_the_rest_by_their_count(self):
        for turn in (2, 5, 8, 299, MOST - 2):
            self.assertEqual(turn % 3, 2)
            self.assertEqual(run_by(COUNT, self.LOT, {}, STILL, turn), [2, 3, 1])
        for turn in (3, 6, 300, MOST - 1):
            self.assert_early(("a", (1,)), COUNT, self.LOT, STILL, turn)
        for turn in (4, 7, MOST):
            self.assert_early(("a", (2,)), COUNT, self.LOT, STILL, turn)

    def test_each_round_by_its_own_count(self):
        # Rounds of three, two and one cell; in those of three and two, one order alone serves.
        lot = row_of(1, 2, 0) + [("b", (1,)), ("b", (0,))] + [("c", (0,))]
        house = house_of(*[(name, op("+", at(name, -1), num(1))) for name in "abc"])
        clock = {"a": (0, ()), "b": (1, ()), "c": (2, ())}
        for turn in range(12):
            if turn % 3 == 2 and turn % 2 == 1:
                self.assertEqual(run_by(house, lot, {}, clock, turn), [2, 3, 1, 2, 1, 1])
            else:
                self.assert_early(lot[turn % 3] if turn % 3 < 2 else lot[3], house, lot, clock, turn)


class TooEarly(Run):
    def test_of_a_later_round(self):
        self.assert_early(("a", (2,)), COUNT, row_of(0, 1, 2), BACK)

    def test_of_its_own_round(self):
        self.assert_early(("a", (1,)), COUNT, row_of(1, 0), STILL)

    def test_itself(self):
        house = house_of(("a", at("a", 0)))
        self.assert_early(("a", (5,)), house, row_of(5), STILL, 3)

    def test_the_first_one_as_they_are_done(self):
        # 5 waits for none of the lot; 2 and 8 wait for 1 and 7, which stand behind them.
        lot = row_of(5, 2, 8, 1, 7)
        self.assert_early(("a", (8,)), COUNT, lot, BACK)
        self.assert_early(("a", (2,)), COUNT, row_of(5, 2, 8, 1), BACK)
        self.assert_early(("a", (2,)), COUNT, lot, STILL, 0)
        self.assert_early(("a", (8,)), COUNT, lot, STILL, 2)
        self.assert_early(("a", (2,)), COUNT, lot, STILL, 4)

    def test_what_is_not_of_the_lot_hinders_none(self):
        self.assertEqual(run_by(COUNT, row_of(5, 3, 1), {cell: 6 for cell in row_of(0, 2)}, BACK, 0), [1, 7, 7])

    def test_a_number_that_is_not_asked_for_is_waited_for(self):
        house = house_of(("a", op("*", num(0), at("a", 1))))
        self.assert_early(("a", (0,)), house, row_of(0, 1), FORTH)


class Many(Run):
    def test_by_any_clock(self):
        dice = Dice(84)
        counts = {"told": 0, "early": 0}
        for turn in range(500):
            house = dice.one_of((good_house, stepped_house, paced_house))(dice)
            lot = some_lot(dice, house, dice.one_of((4, 10, 40)))
            clock = some_clock(dice, house)
            word = self.assert_run(house, lot, some_rim(dice, house, lot), clock, dice.one_of((dice.below(50), MOST)))
            counts[word] += 1
        self.assertGreater(min(counts.values()), 100)

    def test_one_answer_by_each_clock_that_is_let_by_and_each_turn(self):
        dice = Dice(85)
        hands = {}
        for turn in range(300):
            house = mixed(dice, dice.one_of((paced_house, wound_house, stepped_house))(dice))
            word, clock = clock_of(house)
            if word == "clock":
                lot = some_lot(dice, house)
                rim = some_rim(dice, house, lot)
                need = reckoned(house, lot, rim)
                self.assertEqual(need[0], "told")
                self.assertIs(fits(house, lot, rim, dict(zip(lot, need[1]))), True)
                for other in (clock, other_clock(dice, clock), other_clock(dice, clock)):
                    self.assertIsNone(first_late(house, other))
                    for number in (0, 1, dice.below(1000), MOST):
                        self.assertEqual(run_by(house, lot, rim, other, number), need[1])
                    self.assert_run(house, lot, rim, other, 3)
                    hands[len(other[house[2][0][0]][1])] = True
        self.assertEqual(set(hands), set(range(7)))

    def test_two_hundred_and_more_cells_by_hands_that_part_rows(self):
        house = house_with("ab", [("a", "a", (0, 1)), ("a", "b", (-1, 0)), ("b", "b", (0, -1)), ("b", "a", (0, 0))], 2)
        word, clock = clock_of(house)
        lot = stirred(Dice(86), [(name, (x, y)) for name in "ab" for x in range(12) for y in range(12)])
        word, numbers = reckoned(house, lot, {})
        for turn in (0, 1, 12345):
            self.assertEqual(run_by(house, lot, {}, clock, turn), numbers)


class Stays(unittest.TestCase):
    def test_what_is_handed_in_and_what_is_told(self):
        dice = Dice(87)
        for turn in range(80):
            house = mixed(dice, paced_house(dice))
            lot = some_lot(dice, house)
            rim = some_rim(dice, house, lot)
            clock = clock_of(house)[1]
            things = (house, lot, list(rim.items()), list(clock.items()))
            kept = copy.deepcopy(things)
            first = (run_by(house, lot, rim, clock, turn), rounds_of(lot, clock))
            told = copy.deepcopy(first)
            run_by(house, lot, {}, clock, turn + 1)
            first[0].clear()
            first[1].reverse()
            self.assertEqual((house, lot, list(rim.items()), list(clock.items())), kept)
            self.assertEqual((run_by(house, lot, rim, clock, turn), rounds_of(lot, clock)), told)

    def test_a_refused_run_changes_nothing(self):
        lot, rim, clock = row_of(1, 0), {("a", (-1,)): 3}, dict(BACK)
        for turn in range(2):
            with self.assertRaises(Early):
                run_by(COUNT, lot, rim, clock, 0)
            self.assertEqual((lot, rim, clock), (row_of(1, 0), {("a", (-1,)): 3}, BACK))
        self.assertEqual(run_by(COUNT, lot, rim, FORTH, 0), [5, 4])

    def test_what_is_changed_behind(self):
        lot, rim, clock = row_of(1, 0), {("a", (-1,)): 3}, dict(FORTH)
        self.assertEqual(run_by(COUNT, lot, rim, clock, 0), [5, 4])
        rim[("a", (-1,))] = 8
        self.assertEqual(run_by(COUNT, lot, rim, clock, 0), [10, 9])
        lot.pop()
        self.assertEqual(run_by(COUNT, lot, rim, clock, 0), [1])
        clock["a"] = (0, (((-1,), 0),))
        self.assertEqual(rounds_of(row_of(1, 2), clock), [row_of(2), row_of(1)])


if __name__ == "__main__":
    unittest.main()
