"""clockhouse.moved: houses moved, turned and put side by side, cells and clocks carried along."""

import copy
import itertools
import unittest

from clockhouse.clockmaker import clock_of
from clockhouse.clocks import first_late, time_of
from clockhouse.errors import NoHouse, NoTurn
from clockhouse.houses import look_house, steps_of
from clockhouse.moved import beside, moved, moved_cell, moved_clock, turned, turned_cell, turned_clock
from clockhouse.needs import reckoned
from tests.samples import (
    Dice, at, crossed_house, determinant, good_house, house_of, house_with, if_, mixed, num, op, paced_house, plain_kept,
    plain_led, plain_steps, plain_time, some_clock, some_lot, some_offsets, some_rim, some_table, stepped_house,
    wound_house,
)

MOST = 10**9
TREE = house_of(
    ("a", if_(at("b", 1, 2), op("less", num(3), at("a", -1, 0)), op("rest", at("b", 0, 0), at("a", -1, 0)))),
    ("b", op("max", at("c", 2, -2), num(MOST))), ("c", num(7)), ways=2, wheel=97)


def new_rows(rule, row_of):
    """A rule with other rows: row_of tells them of the name and the row."""
    if rule[0] == "num":
        return rule
    if rule[0] == "at":
        return ("at", rule[1], row_of(rule[1], rule[2]))
    head = 1 if rule[0] == "if" else 2
    return rule[:head] + tuple([new_rows(part, row_of) for part in rule[head:]])


def plain_moved(house, offsets):
    def row_of(name):
        return lambda other, row: tuple([a + b - c for a, b, c in zip(row, offsets[other], offsets[name])])
    return house[:2] + (tuple([(name, new_rows(rule, row_of(name))) for name, rule in house[2]]),)


def plain_led_by(table, place):
    return tuple([sum([number * more for number, more in zip(line, place)]) for line in table])


def plain_turned(house, table):
    return house[:2] + (tuple([(name, new_rows(rule, lambda other, row: plain_led_by(table, row)))
                               for name, rule in house[2]]),)


class Carried(unittest.TestCase):
    """What holds of a house and of the one that it is carried to, by each cell's being carried."""

    def assert_steps(self, house, other, carry):
        """Each step leads from carried cells to carried cells."""
        place = tuple(range(5, 5 + house[0]))
        for (name, read, row), (new_name, new_read, new_row) in zip(plain_steps(house), plain_steps(other), strict=True):
            self.assertEqual((new_name, new_read), (name, read))
            start = carry((name, place))[1]
            self.assertEqual((read, plain_led(start, new_row)), carry((read, plain_led(place, row))))

    def assert_answer(self, house, other, carry, lot, rim):
        """The carried lot has the carried answer, with the carried rim."""
        new_lot = [carry(cell) for cell in lot]
        word, numbers = reckoned(house, lot, rim)
        new_word, new_numbers = reckoned(other, new_lot, {carry(cell): number for cell, number in rim.items()})
        self.assertEqual(new_word, word)
        if word == "told":
            self.assertEqual(new_numbers, numbers)

    def assert_clock(self, house, other, carry, clock, new_clock):
        """Each carried cell's time stays, and so each step that is kept."""
        self.assertIsInstance(new_clock, dict)
        self.assertEqual(list(new_clock), list(clock))
        for name, (knot, hands) in clock.items():
            self.assertEqual(new_clock[name][0], knot)
            self.assertIsInstance(new_clock[name][1], tuple)
            self.assertEqual(len(new_clock[name][1]), len(hands))
            for place in itertools.product((-7, 0, 3, 1000), repeat=house[0]):
                self.assertEqual(plain_time(new_clock, carry((name, place))), plain_time(clock, (name, place)))
        self.assertEqual(first_late(other, new_clock), first_late(house, clock))


class Moved(Carried):
    def test_a_step_to_another_desk(self):
        house = house_with("ab", [("a", "b", (1, 2))], 2)
        told = moved(house, {"a": (1, 0), "b": (10, 20)})
        self.assertEqual(steps_of(told), (("a", "b", (10, 22)),))
        self.assertEqual(steps_of(moved(house, {"a": (10, 20), "b": (1, 0)})), (("a", "b", (-8, -18)),))

    def test_a_step_to_its_own_desk_stays(self):
        house = house_with("a", [("a", "a", (-1,)), ("a", "a", (2,))])
        self.assertEqual(moved(house, {"a": (3,)}), house)

    def test_by_nothing(self):
        self.assertEqual(moved(TREE, {name: (0, 0) for name in "abc"}), TREE)

    def test_all_alike(self):
        self.assertEqual(moved(TREE, {name: (3, -2) for name in "abc"}), TREE)

    def test_rules_of_all_kinds(self):
        self.assertEqual(moved(TREE, {"a": (1, 0), "b": (0, -1), "c": (3, 3)}), house_of(
            ("a", if_(at("b", 0, 1), op("less", num(3), at("a", -1, 0)), op("rest", at("b", -1, -1), at("a", -1, 0)))),
            ("b", op("max", at("c", 5, 2), num(MOST))), ("c", num(7)), ways=2, wheel=97))

    def test_cells(self):
        self.assertEqual(moved_cell(("b", (4, -5)), {"a": (1, 1), "b": (-3, 2)}), ("b", (1, -3)))
        self.assertEqual(moved_cell(("a", (1000,)), {"a": (3,)}), ("a", (1003,)))

    def test_clocks(self):
        clock = {"a": (2, (((1, 10), 5), ((0, 0), 7))), "b": (0, (((-1, 3), 0), ((2, 2), -4)))}
        self.assertEqual(moved_clock(clock, {"a": (3, -2), "b": (1, 2)}), {
            "a": (2, (((1, 10), 22), ((0, 0), 7))), "b": (0, (((-1, 3), -5), ((2, 2), -10)))})
        self.assertEqual(moved_clock({"a": (4, ())}, {"a": (3, -2)}), {"a": (4, ())})

    def test_great_clocks(self):
        clock = {"a": (-MOST, tuple([((MOST, -MOST), k * MOST) for k in range(6)]))}
        self.assertEqual(moved_clock(clock, {"a": (3, -3)})["a"][1], tuple(
            [((MOST, -MOST), (k - 6) * MOST) for k in range(6)]))

    def test_many(self):
        dice = Dice(131)
        words = {}
        for turn in range(300):
            house = mixed(dice, dice.one_of((good_house, stepped_house, wound_house, crossed_house, paced_house))(dice))
            offsets = some_offsets(dice, house)
            told = moved(house, offsets)
            self.assertEqual(told, plain_moved(house, offsets))
            self.assertIs(look_house(told), True)

            def carry(cell):
                return moved_cell(cell, offsets)
            self.assert_steps(house, told, carry)
            lot = some_lot(dice, house)
            self.assert_answer(house, told, carry, lot, some_rim(dice, house, lot))
            word, clock = clock_of(house)
            words[word] = True
            self.assertEqual(clock_of(told)[0], word)
            if word == "clock":
                self.assertTrue(all(plain_kept(told, moved_clock(clock, offsets), step) for step in plain_steps(told)))
                self.assertEqual(len(clock_of(told)[1][house[2][0][0]][1]), len(clock[house[2][0][0]][1]))
                self.assert_clock(house, told, carry, clock, moved_clock(clock, offsets))
            clock = some_clock(dice, house)
            self.assert_clock(house, told, carry, clock, moved_clock(clock, offsets))
        self.assertEqual(len(words), 2)


class Turned(Carried):
    def test_one_direction(self):
        house = house_with("ab", [("a", "b", (2,)), ("b", "b", (-1,))])
        self.assertEqual(turned(house, ((1,),)), house)
        self.assertEqual(steps_of(turned(house, ((-1,),))), (("a", "b", (-2,)), ("b", "b", (1,))))

    def test_rows_of_the_table_not_its_columns(self):
        house = house_with("a", [("a", "a", (1, 2))], 2)
        self.assertEqual(steps_of(turned(house, ((1, 3), (0, 1)))), (("a", "a", (7, 2)),))
        self.assertEqual(steps_of(turned(house, ((1, 0), (3, 1)))), (("a", "a", (1, 5)),))
        self.assertEqual(turned_cell(("a", (1, 2)), ((1, 3), (0, 1))), ("a", (7, 2)))
        self.assertEqual(turned_cell(("b", (1, 2, 3)), ((0, 1, 0), (0, 0, 1), (1, 0, 0))), ("b", (2, 3, 1)))
        self.assertEqual(turned_cell(("b", (1000, -1000, 1)), ((3, -3, 0), (1, 0, 0), (0, 0, -1))), ("b", (6000, 1000, -1)))

    def test_rules_of_all_kinds(self):
        self.assertEqual(turned(TREE, ((0, -1), (1, 0))), house_of(
            ("a", if_(at("b", -2, 1), op("less", num(3), at("a", 0, -1)), op("rest", at("b", 0, 0), at("a", 0, -1)))),
            ("b", op("max", at("c", 2, 2), num(MOST))), ("c", num(7)), ways=2, wheel=97))

    def test_no_turn(self):
        for number in (-3, -2, 0, 2, 3):
            with self.assertRaises(NoTurn):
                turned(house_of(("a", num(0))), ((number,),))
        for table in itertools.product(itertools.product(range(-2, 4), repeat=2), repeat=2):
            if determinant(table) in (1, -1):
                self.assertEqual(turned(TREE, table), plain_turned(TREE, table))
            else:
                with self.assertRaises(NoTurn):
                    turned(TREE, table)

    def test_no_turn_in_three_directions(self):
        dice = Dice(132)
        house = house_with("a", [("a", "a", (1, -1, 2))], 3)
        seen = {}
        for turn in range(3000):
            table = tuple([tuple([dice.below(7) - 3 for way in range(3)]) for line in range(3)])
            many = determinant(table)
            seen[many] = True
            if many in (1, -1):
                self.assertEqual(turned(house, table), plain_turned(house, table))
            else:
                with self.assertRaises(NoTurn):
                    turned(house, table)
        self.assertTrue({0, 1, -1, 2, -2} <= set(seen))

    def test_the_great_determinants(self):
        for table in (((3, 0, 0), (0, 3, 0), (0, 0, 3)), ((3, 3, 3), (3, 3, 3), (3, 3, 3)), ((3, -3), (3, 3))):
            with self.assertRaises(NoTurn):
                turned(house_of(("a", num(0)), ways=len(table)), table)

    def test_clocks(self):
        clock = {"a": (2, (((1, 10), 5), ((0, 0), 7))), "b": (0, (((-1, 3), 0), ((2, 2), -4)))}
        self.assertEqual(turned_clock(clock, ((1, 3), (0, 1))), {
            "a": (2, (((1, 7), 5), ((0, 0), 7))), "b": (0, (((-1, 6), 0), ((2, -4), -4)))})
        self.assertEqual(turned_clock({"a": (1, (((5,), 3),))}, ((-1,),)), {"a": (1, (((-5,), 3),))})
        self.assertEqual(turned_clock({"a": (4, ())}, ((1, 0), (0, 1))), {"a": (4, ())})

    def test_many(self):
        dice = Dice(133)
        seen = {}
        for turn in range(300):
            house = mixed(dice, dice.one_of((good_house, stepped_house, wound_house, crossed_house, paced_house))(dice))
            table = some_table(dice, house[0])
            told = turned(house, table)
            self.assertEqual(told, plain_turned(house, table))
            self.assertIs(look_house(told), True)

            def carry(cell):
                return turned_cell(cell, table)
            for cell in (("a", (0,) * house[0]), ("bb", (-1000, 999, 7)[:house[0]])):
                self.assertEqual(carry(cell), (cell[0], plain_led_by(table, cell[1])))
            self.assert_steps(house, told, carry)
            lot = some_lot(dice, house)
            self.assert_answer(house, told, carry, lot, some_rim(dice, house, lot))
            word, clock = clock_of(house)
            self.assertEqual(clock_of(told)[0], word)
            if word == "clock":
                self.assertTrue(all(plain_kept(told, turned_clock(clock, table), step) for step in plain_steps(told)))
                self.assertEqual(len(clock_of(told)[1][house[2][0][0]][1]), len(clock[house[2][0][0]][1]))
                self.assert_clock(house, told, carry, clock, turned_clock(clock, table))
            clock = some_clock(dice, house)
            self.assert_clock(house, told, carry, clock, turned_clock(clock, table))
            seen[(house[0], determinant(table), word)] = True
        self.assertEqual(len(seen), 12)


class Beside(unittest.TestCase):
    ONE = house_with("ab", [("a", "b", (1,)), ("b", "b", (-1,))])
    OTHER = house_with("dc", [("d", "c", (0,)), ("c", "c", (2,))])

    def assert_refused(self, word, name, one, other):
        with self.assertRaises(NoHouse) as caught:
            beside(one, other)
        self.assertEqual((caught.exception.word, caught.exception.name), (word, name))

    def wide(self, names, many, ways=1, wheel=10):
        """A house of so many steps, all of the first desk or the second."""
        steps = [(names[k % len(names[:2])], names[0], (k,) + (0,) * (ways - 1)) for k in range(many)]
        return house_with(names, steps, ways, wheel)

    def test_the_first_ones_desks_then_the_second_ones(self):
        told = beside(self.ONE, self.OTHER)
        self.assertEqual(told, (1, 10, self.ONE[2] + self.OTHER[2]))
        self.assertEqual(steps_of(told), steps_of(self.ONE) + steps_of(self.OTHER))
        self.assertEqual(beside(self.OTHER, self.ONE), (1, 10, self.OTHER[2] + self.ONE[2]))

    def test_ways(self):
        self.assert_refused("ways", "", self.ONE, self.wide("cd", 2, ways=2))
        self.assert_refused("ways", "", self.wide("cd", 2, ways=3), self.ONE)

    def test_wheel(self):
        self.assert_refused("wheel", "", self.ONE, self.wide("cd", 2, wheel=11))
        self.assert_refused("wheel", "", self.wide("cd", 2, wheel=2), self.ONE)

    def test_desks(self):
        self.assertEqual(len(beside(self.wide("abcd", 0), self.wide("ef", 0))[2]), 6)
        self.assertEqual(len(beside(self.wide("a", 0), self.wide("bcdef", 0))[2]), 6)
        self.assert_refused("desks", "", self.wide("abcd", 0), self.wide("efg", 0))
        self.assert_refused("desks", "", self.wide("abcdef", 0), self.wide("g", 0))
        self.assert_refused("desks", "", self.wide("abcdef", 0), self.wide("ghijkl", 0))

    def test_name(self):
        self.assert_refused("name", "a", self.ONE, self.wide("a", 0))
        self.assert_refused("name", "a", self.wide("abc", 0), self.wide("dac", 0))
        self.assert_refused("name", "c", self.wide("abc", 0), self.wide("dca", 0))
        self.assert_refused("name", "b", self.ONE, self.wide("dba", 0))
        self.assert_refused("name", "a", self.ONE, self.ONE)

    def test_steps(self):
        self.assertEqual(len(steps_of(beside(self.wide("ab", 8), self.wide("cd", 8)))), 16)
        self.assert_refused("steps", "", self.wide("ab", 8), self.wide("cd", 9))
        self.assert_refused("steps", "", self.wide("ab", 16), self.wide("c", 1))
        self.assertEqual(len(beside(self.wide("ab", 16), self.wide("c", 0))[2]), 3)

    def test_a_step_read_twice_counts_once(self):
        twice = house_of(("c", op("+", at("c", 1), at("c", 1))))
        self.assertEqual(len(steps_of(beside(self.wide("ab", 15), twice))), 16)

    def test_in_their_order(self):
        other = {"ways": 2, "wheel": 11}
        for count in range(3):
            for many, name, steps in itertools.product((False, True), repeat=3):
                names = ("a" if name else "g") + ("hijkl" if many else "h")
                given = {key: other[key] for key in list(other)[count:]}
                second = self.wide(names, 9 if steps else 1, **given)
                due = list(given) + ["desks"] * many + ["name"] * name + ["steps"] * steps
                if due:
                    self.assert_refused(due[0], "a" if due[0] == "name" else "", self.wide("ab", 8), second)
                else:
                    self.assertIs(look_house(beside(self.wide("ab", 8), second)), True)

    def test_each_reckons_as_by_itself(self):
        dice = Dice(134)
        many = 0
        for turn in range(300):
            one, two = [mixed(dice, stepped_house(dice, 2, names)) for names in (("a", "bb", "c"), ("dd", "e", "f"))]
            if one[:2] == two[:2] and len(steps_of(one)) + len(steps_of(two)) <= 16:
                told = beside(one, two)
                for house in (one, two):
                    lot = some_lot(dice, house)
                    rim = some_rim(dice, house, lot)
                    self.assertEqual(reckoned(told, lot, rim), reckoned(house, lot, rim))
                words = {clock_of(one)[0], clock_of(two)[0]}
                self.assertEqual(clock_of(told)[0], "ring" if "ring" in words else "clock")
                many += 1
        self.assertGreater(many, 15)


class Stays(unittest.TestCase):
    def test_what_is_handed_in_and_what_is_told(self):
        dice = Dice(135)
        for turn in range(80):
            house = mixed(dice, wound_house(dice))
            offsets, table, clock = some_offsets(dice, house), some_table(dice, house[0]), clock_of(house)[1]
            kept = copy.deepcopy((house, list(offsets.items()), list(clock.items())))
            first = (moved_clock(clock, offsets), turned_clock(clock, table))
            told = copy.deepcopy(first) + (moved(house, offsets), turned(house, table))
            for one in first:
                one.clear()
            self.assertEqual((house, list(offsets.items()), list(clock.items())), kept)
            self.assertEqual((moved_clock(clock, offsets), turned_clock(clock, table), moved(house, offsets),
                              turned(house, table)), told)

    def test_offsets_changed_behind(self):
        house = house_with("ab", [("a", "b", (1,))])
        offsets = {"a": (0,), "b": (1,)}
        told = moved(house, offsets)
        offsets["b"] = (2,)
        self.assertEqual(steps_of(told), (("a", "b", (2,)),))
        self.assertEqual(steps_of(moved(house, offsets)), (("a", "b", (3,)),))

    def test_times_by_the_programs_own_telling(self):
        clock = {"a": (0, (((2, -1), 3),))}
        for table in (((1, 0), (0, 1)), ((0, 1), (1, 0)), ((2, 3), (1, 1)), ((-3, 2), (1, -1))):
            for place in ((0, 0), (5, -8), (1100, 1100)):
                self.assertEqual(time_of(turned_clock(clock, table), turned_cell(("a", place), table)),
                                 time_of(clock, ("a", place)))


if __name__ == "__main__":
    unittest.main()
