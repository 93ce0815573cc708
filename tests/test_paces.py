"""clockhouse.paces: a hand by which each step gains, or a bundle; and paces bent to a direction."""

import copy
import unittest

from clockhouse.bundles import is_bundle
from clockhouse.clockmaker import clock_of
from clockhouse.clocks import first_late
from clockhouse.houses import steps_of
from clockhouse.housetexts import read_house
from clockhouse.paces import bent, pace_of
from tests.samples import (
    Dice, crossed_house, good_house, house_of, house_with, num, paced_house, plain_gain, plain_is_bundle, plain_steps,
    stepped_house, wound_house, wound_steps,
)

MOST = 10**9


class Paces(unittest.TestCase):
    def assert_pace(self, house, row, hours):
        self.assertIsInstance(row, tuple)
        self.assertEqual(len(row), house[0])
        self.assertEqual(set(hours), {name for name, rule in house[2]})
        self.assertTrue(all(isinstance(number, int) for number in row + tuple(hours.values())))
        for step in plain_steps(house):
            self.assertGreaterEqual(plain_gain(row, hours, step), 1)
        # As a clock of one hand, all knots 0.
        self.assertIsNone(first_late(house, {name: (0, ((row, hour),)) for name, hour in hours.items()}))

    def assert_told(self, house, word=None):
        """What is told, once it is seen to be right."""
        told = pace_of(house)
        self.assertIsInstance(told, tuple)
        if told[0] == "pace":
            self.assertEqual(len(told), 3)
            self.assert_pace(house, told[1], told[2])
        else:
            self.assertEqual((told[0], len(told)), ("bundle", 2))
            self.assertIsInstance(told[1], tuple)
            self.assertEqual(len(told[1]), len(steps_of(house)))
            self.assertTrue(plain_is_bundle(house, told[1]))
            self.assertIs(is_bundle(house, told[1]), True)
        self.assertEqual(told[0], told[0] if word is None else word)
        return told

    def assert_bent(self, house, row, hours, way):
        """The pace bent to a direction, once it is seen to be one."""
        told = bent(house, row, hours, way)
        self.assertIsInstance(told, tuple)
        new_row, new_hours = told
        self.assert_pace(house, new_row, new_hours)
        self.assertNotEqual(new_row[way], 0)
        if row[way] != 0:
            self.assertEqual(told, (row, hours))
        return told


class PaceOf(Paces):
    def test_a_house_without_steps(self):
        for ways in (1, 2, 3):
            self.assert_told(house_of(("a", num(0)), ("b", num(1)), ways=ways), "pace")

    def test_one_step(self):
        for row in ((1,), (-2,), (0, 1), (2, -2, 1), (0, 0, -1)):
            self.assert_told(house_with("a", [("a", "a", row)], len(row)), "pace")
        self.assert_told(house_with("ab", [("a", "b", (0,))]), "pace")
        self.assertEqual(self.assert_told(house_with("a", [("a", "a", (0,))]), "bundle"), ("bundle", (1,)))

    def test_there_and_back(self):
        amounts = self.assert_told(house_with("a", [("a", "a", (2,)), ("a", "a", (-1,))]), "bundle")[1]
        self.assertEqual(amounts[1], 2 * amounts[0])

    def test_knots_apart_whose_rows_stand_against_one_another(self):
        # There is a clock of one hand, but the two desks need unlike rows: so no pace serves both.
        house = house_with("ab", [("a", "a", (1,)), ("b", "b", (-1,))])
        self.assertEqual(clock_of(house)[0], "clock")
        amounts = self.assert_told(house, "bundle")[1]
        self.assertEqual(amounts[0], amounts[1])

    def test_a_house_with_a_clock_of_more_hands(self):
        for names, ways in (("ab", 2), ("abcd", 3)):
            house = house_with(names, wound_steps(names, ways), ways)
            self.assertEqual(clock_of(house)[0], "clock")
            self.assert_told(house, "bundle")

    def test_desks_round_about(self):
        for last, word in ((-1, "pace"), (0, "bundle"), (1, "pace")):
            house = house_with("abc", [("a", "b", (2,)), ("b", "c", (-1,)), ("c", "a", (-1 + last,))])
            self.assert_told(house, word)

    def test_rows_in_a_half_of_the_plane(self):
        rows = [(2, 1), (1, 2), (-1, 2), (2, -1), (0, 1), (1, 0), (-1, 1)]
        self.assert_told(house_with("a", [("a", "a", row) for row in rows], 2), "pace")
        self.assert_told(house_with("a", [("a", "a", row) for row in rows + [(-1, -1)]], 2), "bundle")

    def test_of_many_houses(self):
        dice = Dice(101)
        seen = {}
        for turn in range(500):
            house = dice.one_of((stepped_house, good_house, wound_house, crossed_house))(dice)
            word = self.assert_told(house)[0]
            seen[(word, house[0])] = seen.get((word, house[0]), 0) + 1
            if clock_of(house)[0] == "ring":
                self.assertEqual(word, "bundle")
        self.assertEqual(len(seen), 6)
        self.assertGreater(min(seen.values()), 15)

    def test_where_one_is_drawn_one_is_told(self):
        dice = Dice(102)
        for turn in range(300):
            self.assert_told(paced_house(dice), "pace")

    def test_rows_of_999(self):
        dice = Dice(103)
        words = {}
        for turn in range(120):
            words[self.assert_told(dice.one_of((stepped_house, paced_house))(dice, 999))[0]] = True
        self.assertEqual(set(words), {"pace", "bundle"})
        self.assert_told(read_house("house 2 10\ndesk a + a@999,-998 + a@-998,999 a@-1,-2"), "bundle")
        self.assert_told(read_house("house 2 10\ndesk a + a@999,-998 + a@-998,999 b@-999,-999\ndesk b 1"), "pace")
        self.assert_told(read_house("house 1 10\ndesk a b@999\ndesk b + a@-998 b@1"), "pace")
        self.assert_told(read_house("house 1 10\ndesk a b@999\ndesk b + a@-998 b@-1"), "bundle")


class Bent(Paces):
    def test_the_same_one_where_it_has(self):
        house = house_with("a", [("a", "a", (-1, 0))], 2)
        self.assertEqual(bent(house, (3, 7), {"a": 5}, 0), ((3, 7), {"a": 5}))
        self.assertEqual(bent(house, (3, 7), {"a": 5}, 1), ((3, 7), {"a": 5}))
        self.assertEqual(bent(house, (3, -1), {"a": 5}, 1), ((3, -1), {"a": 5}))

    def test_a_row_of_0_there(self):
        house = house_with("a", [("a", "a", (-1, 2)), ("a", "a", (-1, -2))], 2)
        self.assert_bent(house, (1, 0), {"a": 0}, 1)
        self.assert_bent(house, (1, 0), {"a": 9}, 1)

    def test_gains_of_just_1_both_ways(self):
        for most in (1, 2, 999):
            steps = [(name, other, (0, k)) for name, other in ("ab", "ac", "bc") for k in (most, -most)]
            house = house_with("abc", steps, 2)
            self.assert_bent(house, (0, 0), {"a": 2, "b": 1, "c": 0}, 0)
            self.assert_bent(house, (0, 0), {"a": 2, "b": 1, "c": 0}, 1)
            self.assert_bent(house, (0, 0), {"a": MOST, "b": 1, "c": -MOST}, 1)

    def test_a_house_without_steps(self):
        for ways in (1, 2, 3):
            house = house_of(("a", num(0)), ("b", num(1)), ways=ways)
            word, row, hours = pace_of(house)
            for way in range(ways):
                self.assert_bent(house, row, hours, way)

    def test_each_direction_in_turn(self):
        house = house_with("ab", [("a", "b", (1, -2, 2)), ("b", "a", (-2, 2, -2)), ("b", "b", (-1, 1, 2))], 3)
        word, row, hours = self.assert_told(house, "pace")
        for way in (0, 1, 2):
            row, hours = self.assert_bent(house, row, hours, way)
        for way in (0, 1, 2):
            self.assertEqual(bent(house, row, hours, way), (row, hours))

    def test_of_many_houses(self):
        dice = Dice(104)
        counts = {True: 0, False: 0}
        for turn in range(300):
            house = paced_house(dice, dice.one_of((1, 2, 999)))
            word, row, hours = pace_of(house)
            for way in range(house[0]):
                self.assert_bent(house, row, hours, way)
                counts[row[way] == 0] += 1
        self.assertGreater(min(counts.values()), 80)


class Stays(unittest.TestCase):
    def test_what_is_handed_in_and_what_is_told(self):
        dice = Dice(105)
        for turn in range(100):
            house = dice.one_of((paced_house, stepped_house))(dice)
            kept = copy.deepcopy(house)
            first = pace_of(house)
            told = copy.deepcopy(first)
            if first[0] == "pace":
                hours = dict(told[2])
                for way in range(house[0]):
                    one = bent(house, told[1], hours, way)
                    two = copy.deepcopy(one)
                    one[1].clear()
                    self.assertEqual(list(hours.items()), list(told[2].items()))
                    self.assertEqual(bent(house, told[1], hours, way), two)
                first[2].clear()
            self.assertEqual(house, kept)
            self.assertEqual(pace_of(house), told)

    def test_hours_changed_behind(self):
        house = house_with("a", [("a", "a", (-1, 0))], 2)
        hours = {"a": 5}
        for row in ((1, 1), (1, 0)):
            told = bent(house, row, hours, 1)
            kept = copy.deepcopy(told)
            hours["a"] += 1
            self.assertEqual(told, kept)


if __name__ == "__main__":
    unittest.main()
