"""clockhouse.halls: lots that are kept while numbers at their rims are changed."""

import copy
import unittest

from clockhouse.errors import NoCell, Ring
from clockhouse.halls import Hall
from clockhouse.lots import box
from clockhouse.needs import reckoned
from tests.samples import (
    Dice, at, good_house, has_ring, house_of, house_with, if_, is_ring, mixed, num, op, paced_house, plain_needs,
    plain_reckoned, plain_waits, some_lot, some_rim, stepped_house, stirred, wound_house,
)

MOST = 10**9
COUNT = house_of(("a", op("+", at("a", -1), num(1))), wheel=MOST)


def row_of(*places):
    return [("a", (place,)) for place in places]


def touched(house, lot, cell):
    """The cells of a lot that need one that waits for a cell, by the words of the document."""
    waiting = [one for one in lot if cell in plain_waits(house, one)]
    return [one for one in lot if one in waiting or any(other in waiting for other in plain_needs(house, lot, one))]


class Halls(unittest.TestCase):
    def assert_refused(self, hall, cell, number):
        kept = (hall.numbers(), hall.done)
        with self.assertRaises(NoCell) as caught:
            hall.change(cell, number)
        self.assertEqual(caught.exception.cell, cell)
        self.assertEqual((hall.numbers(), hall.done), kept)


class Told(Halls):
    def test_no_cells(self):
        hall = Hall(COUNT, [], {("a", (0,)): 3})
        self.assertEqual((hall.numbers(), hall.done), ([], 0))
        self.assertEqual(hall.change(("a", (0,)), 4), [])
        self.assertEqual((hall.numbers(), hall.done), ([], 0))

    def test_numbers_in_the_lots_order(self):
        told = Hall(COUNT, row_of(2, 0, 1), {("a", (-1,)): 40}).numbers()
        self.assertIsInstance(told, list)
        self.assertEqual(told, [43, 41, 42])

    def test_cells_of_the_lot_are_passed_over_in_the_rim(self):
        hall = Hall(COUNT, row_of(2, 0, 1), {cell: 70 for cell in row_of(-1, 0, 1, 2)})
        self.assertEqual(hall.numbers(), [73, 71, 72])
        self.assertEqual(hall.change(("a", (-1,)), 1), row_of(2, 0, 1))
        self.assertEqual(hall.numbers(), [4, 2, 3])

    def test_nothing_is_done_at_first(self):
        self.assertEqual(Hall(COUNT, row_of(0, 1, 2), {}).done, 0)
        self.assertIs(type(Hall(COUNT, row_of(0, 1, 2), {}).done), int)


class Rings(Halls):
    def test_one_cell(self):
        with self.assertRaises(Ring) as caught:
            Hall(house_of(("a", at("a", 0))), row_of(5), {("a", (5,)): 1})
        self.assertEqual(caught.exception.cells, row_of(5))

    def test_just_where_there_is_one(self):
        dice = Dice(141)
        counts = {True: 0, False: 0}
        for turn in range(200):
            house = dice.one_of((good_house, stepped_house))(dice)
            lot = some_lot(dice, house)
            rim = some_rim(dice, house, lot)
            ring = has_ring(house, lot)
            if ring:
                with self.assertRaises(Ring) as caught:
                    Hall(house, lot, rim)
                self.assertTrue(is_ring(house, lot, caught.exception.cells))
            else:
                self.assertEqual(dict(zip(lot, Hall(house, lot, rim).numbers())), plain_reckoned(house, lot, rim))
            counts[ring] += 1
        self.assertGreater(min(counts.values()), 25)

    def test_a_long_one(self):
        house = house_with("abcd", [("a", "a", (1,)), ("a", "c", (0,)), ("b", "b", (-1,)), ("b", "d", (0,)),
                                    ("c", "b", (0,)), ("d", "a", (0,))])
        lot = stirred(Dice(142), row_of(*range(149)) + [("b", (k,)) for k in range(149)] + [("c", (148,)), ("d", (0,))])
        with self.assertRaises(Ring) as caught:
            Hall(house, lot, {})
        self.assertEqual(len(caught.exception.cells), 300)


class Changed(Halls):
    def test_all_that_are_behind_it(self):
        hall = Hall(COUNT, row_of(4, 0, 1, 3), {})
        self.assertEqual(hall.change(("a", (-1,)), 5), row_of(0, 1))
        self.assertEqual((hall.numbers(), hall.done), ([2, 6, 7, 1], 2))
        self.assertEqual(hall.change(("a", (2,)), 9), row_of(4, 3))
        self.assertEqual((hall.numbers(), hall.done), ([11, 6, 7, 10], 4))

    def test_in_the_lots_order(self):
        hall = Hall(COUNT, row_of(2, 0, 3, 1), {})
        told = hall.change(("a", (-1,)), 5)
        self.assertIsInstance(told, list)
        self.assertEqual(told, row_of(2, 0, 3, 1))

    def test_a_cell_that_none_reads(self):
        hall = Hall(COUNT, row_of(0, 1), {})
        for place in (2, 7, -2, -1100, 1100):
            self.assertEqual(hall.change(("a", (place,)), 5), [])
        self.assertEqual((hall.numbers(), hall.done), ([1, 2], 0))

    def test_the_number_that_it_has(self):
        hall = Hall(COUNT, row_of(0, 1, 2), {("a", (-1,)): 4})
        self.assertEqual(hall.change(("a", (-1,)), 4), [])
        self.assertEqual((hall.numbers(), hall.done), ([5, 6, 7], 3))
        self.assertEqual(hall.change(("a", (-1,)), 4), [])
        self.assertEqual(hall.done, 6)

    def test_the_number_that_a_lacking_cell_has(self):
        hall = Hall(COUNT, row_of(0, 1, 2), {})
        self.assertEqual(hall.change(("a", (-1,)), 0), [])
        self.assertEqual((hall.numbers(), hall.done), ([1, 2, 3], 3))

    def test_numbers_alike_by_the_wheel(self):
        house = house_of(("a", op("+", at("a", -1), num(1))))
        hall = Hall(house, row_of(0, 1), {("a", (-1,)): 4})
        self.assertEqual(hall.change(("a", (-1,)), 14), [])
        self.assertEqual(hall.change(("a", (-1,)), MOST), row_of(0, 1))
        self.assertEqual((hall.numbers(), hall.done), ([1, 2], 4))

    def test_just_those_whose_numbers_became_others(self):
        # The greater of the two on the left: a small number at the rim comes through to none behind a great one.
        house = house_of(("a", op("max", at("a", -1), at("b", 0))), ("b", num(0)), wheel=MOST)
        hall = Hall(house, row_of(0, 1, 2, 3), {("b", (0,)): 3, ("b", (2,)): 8})
        self.assertEqual(hall.numbers(), [3, 3, 8, 8])
        self.assertEqual(hall.change(("a", (-1,)), 5), row_of(0, 1))
        self.assertEqual((hall.numbers(), hall.done), ([5, 5, 8, 8], 4))
        self.assertEqual(hall.change(("b", (3,)), 7), [])
        self.assertEqual(hall.done, 5)
        self.assertEqual(hall.change(("b", (1,)), 9), row_of(1, 2, 3))
        self.assertEqual((hall.numbers(), hall.done), ([5, 9, 9, 9], 8))

    def test_one_behind_those_that_stay_becomes_another(self):
        # b takes no heed of a's number, c does.
        house = house_of(("a", at("r", 0)), ("b", op("*", at("a", 0), num(0))), ("c", op("+", at("b", 0), at("a", 0))),
                         ("r", num(0)))
        lot = [("c", (0,)), ("b", (0,)), ("a", (0,))]
        hall = Hall(house, lot, {})
        self.assertEqual(hall.change(("r", (0,)), 6), [("c", (0,)), ("a", (0,))])
        self.assertEqual((hall.numbers(), hall.done), ([6, 0, 6], 3))

    def test_a_number_that_is_not_asked_for(self):
        house = house_of(("a", if_(at("c", 0), at("b", 0), at("b", 1))), ("b", num(0)), ("c", num(0)))
        hall = Hall(house, row_of(0), {})
        self.assertEqual(hall.change(("b", (0,)), 5), [])
        self.assertEqual(hall.change(("b", (1,)), 6), row_of(0))
        self.assertEqual(hall.change(("c", (0,)), 1), row_of(0))
        self.assertEqual((hall.numbers(), hall.done), ([5], 3))

    def test_a_cell_read_twice_counts_once(self):
        house = house_with("ab", [("a", "b", (0,)), ("a", "a", (-1,)), ("a", "a", (-2,))])
        hall = Hall(house, row_of(*range(5)), {})
        hall.change(("b", (0,)), 1)
        self.assertEqual(hall.done, 5)

    def test_back_again(self):
        hall = Hall(COUNT, row_of(1, 0), {("a", (-1,)): 2})
        self.assertEqual(hall.change(("a", (-1,)), 8), row_of(1, 0))
        self.assertEqual(hall.change(("a", (-1,)), 2), row_of(1, 0))
        self.assertEqual((hall.numbers(), hall.done), ([4, 3], 4))

    def test_a_cell_of_the_lot_is_refused(self):
        hall = Hall(COUNT, row_of(0, 1, 3), {("a", (0,)): 9, ("a", (2,)): 4})
        for cell in row_of(0, 1, 3):
            self.assert_refused(hall, cell, 50)
        self.assertEqual(hall.numbers(), [1, 2, 5])
        self.assertEqual(hall.change(("a", (-1,)), 6), row_of(0, 1))
        self.assertEqual((hall.numbers(), hall.done), ([7, 8, 5], 2))

    def test_rooms_alike_but_for_the_desk(self):
        house = house_of(("a", op("+", at("b", 0), at("c", 0))), ("b", num(0)), ("c", num(0)))
        hall = Hall(house, row_of(0), {})
        self.assertEqual(hall.change(("b", (0,)), 1), row_of(0))
        self.assertEqual(hall.change(("c", (0,)), 2), row_of(0))
        self.assertEqual(hall.numbers(), [3])


class Long(Halls):
    def test_three_hundred_cells_in_a_row(self):
        for lot in (row_of(*range(300)), row_of(*reversed(range(300))), stirred(Dice(143), row_of(*range(300)))):
            hall = Hall(COUNT, lot, {})
            self.assertEqual(hall.numbers(), [1 + place[0] for name, place in lot])
            self.assertEqual(hall.change(("a", (-1,)), 1000), lot)
            self.assertEqual(hall.numbers(), [1001 + place[0] for name, place in lot])
            self.assertEqual(hall.done, 300)

    def test_a_wide_rim(self):
        house = house_with("ab", [("a", "b", (x, y)) for x in (-2, 0, 2) for y in (-1, 0, 1)] + [("a", "a", (-1, 0))], 2)
        lot = [("a", (x, y)) for x in range(17) for y in range(17)]
        rim = {("b", (x, y)): 3 * x + y + 100 for x in range(-40, 60) for y in range(-40, 60)}
        hall = Hall(house, lot, rim)
        done = 0
        for x, y in ((0, 0), (16, 16), (8, 3), (-2, -1), (18, 17), (-3, 0), (59, 59), (1100, -1100)):
            rim[("b", (x, y))] = 7 * x * x + y * y + 5
            before = dict(zip(lot, hall.numbers()))
            told = hall.change(("b", (x, y)), rim[("b", (x, y))])
            self.assertEqual(hall.numbers(), reckoned(house, lot, rim)[1])
            self.assertEqual(told, [cell for cell, number in zip(lot, hall.numbers()) if number != before[cell]])
            done += len(touched(house, lot, ("b", (x, y))))
            self.assertEqual(hall.done, done)

    def test_a_box_of_two_directions(self):
        house = house_with("s", [("s", "s", (-1, 0)), ("s", "s", (0, -1))], 2, MOST)
        lot = box(house, (15, 20))
        hall = Hall(house, lot, {})
        self.assertEqual(hall.change(("s", (-1, 7)), 1), [cell for cell in lot if cell[1][1] >= 7])
        self.assertEqual(hall.done, 15 * 13)
        self.assertEqual(hall.numbers(), reckoned(house, lot, {("s", (-1, 7)): 1})[1])


class Many(Halls):
    def test_behind_each_change_what_reckoning_anew_tells(self):
        dice = Dice(144)
        counts = {"none": 0, "some": 0, "fewer": 0, "refused": 0}
        for turn in range(250):
            house = mixed(dice, dice.one_of((good_house, paced_house, wound_house))(dice))
            lot = some_lot(dice, house, 25)
            rim = some_rim(dice, house, lot)
            if has_ring(house, lot):
                continue
            hall = Hall(house, lot, rim)
            done = 0
            for change in range(8):
                cell = self.some_cell(dice, house, lot)
                number = dice.one_of((0, 1, dice.below(house[1]), MOST, rim.get(cell, 0)))
                if cell in lot:
                    self.assert_refused(hall, cell, number)
                    counts["refused"] += 1
                    continue
                before = hall.numbers()
                rim[cell] = number
                told = hall.change(cell, number)
                after = reckoned(house, lot, rim)[1]
                self.assertEqual(hall.numbers(), after)
                self.assertEqual(told, [one for one, old, new in zip(lot, before, after) if old != new])
                cells = touched(house, lot, cell)
                done += len(cells)
                self.assertEqual(hall.done, done)
                counts["some" if told else "none"] += 1
                counts["fewer"] += len(told) < len(cells)
        self.assertGreater(min(counts.values()), 80)

    def some_cell(self, dice, house, lot):
        """Most often one that a cell of the lot waits for."""
        waits = [other for cell in lot for other in plain_waits(house, cell)]
        if waits and dice.below(5):
            return dice.one_of(waits)
        return (dice.one_of(house[2])[0], tuple([dice.below(9) - 4 for way in range(house[0])]))


class Stays(unittest.TestCase):
    def test_two_halls_of_the_same_things_which_are_changed_behind(self):
        lot, rim = row_of(1, 0), {("a", (-1,)): 2}
        one, two = Hall(COUNT, lot, rim), Hall(COUNT, lot, rim)
        lot.append(("a", (5,)))
        lot.reverse()
        rim[("a", (-1,))] = 77
        self.assertEqual((one.numbers(), two.numbers()), ([4, 3], [4, 3]))
        self.assertEqual(one.change(("a", (-1,)), 10), row_of(1, 0))
        self.assertEqual((one.numbers(), two.numbers()), ([12, 11], [4, 3]))
        self.assertEqual((one.done, two.done), (2, 0))
        self.assertEqual(two.change(("a", (5,)), 3), [])
        self.assertEqual(two.change(("a", (-1,)), 2), [])
        self.assertEqual((one.numbers(), two.numbers()), ([12, 11], [4, 3]))
        self.assertEqual((one.done, two.done), (2, 2))
        self.assertEqual((lot, rim), (row_of(5, 0, 1), {("a", (-1,)): 77}))

    def test_emptied_behind(self):
        lot, rim = row_of(1, 0), {("a", (-1,)): 2}
        hall = Hall(COUNT, lot, rim)
        lot.clear()
        rim.clear()
        self.assertEqual(hall.numbers(), [4, 3])
        self.assertEqual(hall.change(("a", (7,)), 2), [])
        self.assertEqual(hall.change(("a", (-1,)), 3), row_of(1, 0))
        self.assertEqual(hall.numbers(), [5, 4])

    def test_changes_do_not_reach_what_was_handed_in(self):
        dice = Dice(145)
        for turn in range(60):
            house = mixed(dice, paced_house(dice))
            lot = some_lot(dice, house)
            rim = some_rim(dice, house, lot)
            kept = copy.deepcopy((house, lot, list(rim.items())))
            hall = Hall(house, lot, rim)
            for cell in [other for one in lot for other in plain_waits(house, one) if other not in lot]:
                hall.change(cell, dice.below(MOST))
            self.assertEqual((house, lot, list(rim.items())), kept)

    def test_lists_told_are_the_askers_own(self):
        hall = Hall(COUNT, row_of(1, 0), {})
        for turn in range(1, 4):
            told = hall.change(("a", (-1,)), turn)
            self.assertEqual(told, row_of(1, 0))
            told.clear()
            numbers = hall.numbers()
            self.assertEqual(numbers, [turn + 2, turn + 1])
            numbers.reverse()
            numbers.append(5)
        self.assertEqual(hall.numbers(), [5, 4])
        self.assertEqual(hall.numbers(), [5, 4])

    def test_a_list_told_earlier_stays(self):
        hall = Hall(COUNT, row_of(1, 0), {})
        numbers, told = hall.numbers(), hall.change(("a", (-1,)), 1)
        hall.change(("a", (-1,)), 2)
        self.assertEqual((numbers, told), ([2, 1], row_of(1, 0)))


if __name__ == "__main__":
    unittest.main()
