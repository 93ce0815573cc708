"""clockhouse.bundles: bundles of steps, hands and their gains, and which of both there is."""

import copy
import itertools
import unittest

from clockhouse.bundles import bundle_or_hand, gain, hangs_together, is_bundle
from clockhouse.houses import steps_of
from tests.samples import (
    Dice, good_house, hand_time, house_of, house_with, num, plain_hangs, plain_is_bundle, plain_led, stepped_house,
    stirred, wound_house,
)

MOST = 10**9
# The steps: a forth and back, b forth and back, a to b and b to a.
PAIR = house_with("ab", [("a", "a", (2,)), ("a", "a", (-1,)), ("a", "b", (0,)), ("b", "b", (1,)), ("b", "b", (-1,)),
                         ("b", "a", (0,))])


def all_steps(house):
    return tuple(range(len(steps_of(house))))


def told_bundles(house):
    """One told bundle for each step that lies in one."""
    told = [bundle_or_hand(house, all_steps(house), number) for number in all_steps(house)]
    return [one[1] for one in told if one[0] == "bundle"]


def times_added(many, ones, more, others):
    return tuple([many * one + more * other for one, other in zip(ones, others)])


class IsBundle(unittest.TestCase):
    def test_of_one_desk(self):
        house = house_with("a", [("a", "a", (2,)), ("a", "a", (-1,))])
        self.assertIs(is_bundle(house, (1, 2)), True)
        self.assertIs(is_bundle(house, (3, 6)), True)
        for amounts in ((1, 1), (2, 1), (1, 3), (0, 2), (1, 0)):
            self.assertIs(is_bundle(house, amounts), False)

    def test_one_at_least_is_above_0(self):
        self.assertIs(is_bundle(PAIR, (0,) * 6), False)
        self.assertIs(is_bundle(house_with("a", [("a", "a", (0,))]), (0,)), False)
        self.assertIs(is_bundle(house_with("a", [("a", "a", (0,))]), (1,)), True)

    def test_none_is_below_0(self):
        for amounts in ((-1, -2, 0, 0, 0, 0), (1, 2, 0, -1, -1, 0), (0, 0, -1, 0, 0, -1), (-1, -2, 0, 1, 1, 0),
                        (2, 4, -1, 0, 0, -1)):
            self.assertIs(is_bundle(PAIR, amounts), False)
        still = house_with("a", [("a", "a", (0,)), ("a", "a", (1,))])
        self.assertIs(is_bundle(still, (-1, 0)), False)

    def test_as_much_in_as_out_at_each_desk(self):
        self.assertIs(is_bundle(PAIR, (0, 0, 1, 0, 0, 1)), True)
        self.assertIs(is_bundle(PAIR, (0, 0, 1, 0, 0, 2)), False)
        self.assertIs(is_bundle(PAIR, (0, 0, 1, 0, 0, 0)), False)
        self.assertIs(is_bundle(PAIR, (1, 2, 0, 0, 0, 1)), False)

    def test_the_rows_come_to_nought_in_each_direction(self):
        house = house_with("a", [("a", "a", (1, 1, 0)), ("a", "a", (-1, -1, 0)), ("a", "a", (-1, 0, 2)),
                                 ("a", "a", (1, 0, -1))], ways=3)
        self.assertIs(is_bundle(house, (1, 1, 0, 0)), True)
        for amounts in ((0, 0, 1, 1), (0, 0, 1, 2), (1, 0, 1, 0), (2, 2, 1, 1)):
            self.assertIs(is_bundle(house, amounts), False)
        self.assertIs(is_bundle(house_with("a", [("a", "a", (0, 1)), ("a", "a", (0, -1))], ways=2), (2, 2)), True)

    def test_that_need_not_hang_together(self):
        self.assertIs(is_bundle(PAIR, (1, 2, 0, 3, 3, 0)), True)
        self.assertIs(is_bundle(PAIR, (1, 2, 0, 3, 2, 0)), False)

    def test_rows_that_stand_against_one_another_over_two_desks(self):
        self.assertIs(is_bundle(PAIR, (1, 0, 0, 0, 2, 0)), True)
        self.assertIs(is_bundle(PAIR, (1, 0, 0, 2, 0, 0)), False)

    def test_a_house_without_steps_has_none(self):
        self.assertIs(is_bundle(house_of(("a", num(0)), ("b", num(1))), ()), False)

    def test_great_amounts(self):
        half = MOST // 2
        self.assertIs(is_bundle(PAIR, (half, MOST, MOST, MOST, MOST, MOST)), True)
        self.assertIs(is_bundle(PAIR, (half, MOST - 1, MOST, MOST, MOST, MOST)), False)
        self.assertIs(is_bundle(PAIR, (half, MOST, MOST, MOST, MOST, MOST - 1)), False)
        self.assertIs(is_bundle(PAIR, (-half, -MOST, MOST, 0, 0, MOST)), False)
        self.assertIs(is_bundle(PAIR, (-half, -MOST, -MOST, -MOST, -MOST, -MOST)), False)

    def test_of_all_small_amounts(self):
        for amounts in itertools.product((-1, 0, 1, 2), repeat=6):
            self.assertIs(is_bundle(PAIR, amounts), plain_is_bundle(PAIR, amounts))

    def test_of_many_houses(self):
        dice = Dice(41)
        counts = {True: 0, False: 0}
        for turn in range(250):
            house = dice.one_of((stepped_house, wound_house))(dice)
            for amounts in told_bundles(house)[:4] + [(0,) * len(steps_of(house))]:
                for more in (0, 1, -1, MOST):
                    other = list(amounts)
                    if other:
                        other[dice.below(len(other))] += more
                    plain = plain_is_bundle(house, tuple(other))
                    self.assertIs(is_bundle(house, tuple(other)), plain)
                    counts[plain] += 1
        self.assertGreater(min(counts.values()), 300)


class HangsTogether(unittest.TestCase):
    def test_that_do(self):
        for amounts in ((1, 2, 0, 0, 0, 0), (0, 0, 0, 5, 5, 0), (0, 0, 1, 0, 0, 1), (1, 2, 1, 3, 3, 1),
                        (1, 0, 1, 0, 2, 1), (1, 2, 1, 0, 0, 1), (MOST // 2, MOST, 1, MOST, MOST, 1)):
            self.assertIs(hangs_together(PAIR, amounts), True)

    def test_that_do_not(self):
        for amounts in ((1, 2, 0, 1, 1, 0), (1, 0, 0, 0, 2, 0), (MOST // 2, 0, 0, 0, MOST, 0)):
            self.assertIs(hangs_together(PAIR, amounts), False)

    def test_along_its_own_steps_alone(self):
        # One knot of the house, but the bundle lacks the way between its two halves.
        house = house_with("abcd", [("a", "b", (1,)), ("b", "a", (-1,)), ("b", "c", (0,)), ("c", "d", (0,)),
                                    ("d", "c", (0,)), ("d", "a", (0,))])
        self.assertIs(is_bundle(house, (1, 1, 0, 1, 1, 0)), True)
        self.assertIs(hangs_together(house, (1, 1, 0, 1, 1, 0)), False)
        self.assertIs(hangs_together(house, (1, 1, 0, 0, 0, 0)), True)
        self.assertIs(hangs_together(house, (0, 0, 0, 2, 2, 0)), True)

    def test_by_a_desk_that_two_ways_round_share(self):
        house = house_with("abc", [("a", "b", (1,)), ("b", "a", (-1,)), ("b", "c", (3,)), ("c", "b", (-3,))])
        self.assertIs(hangs_together(house, (1, 1, 2, 2)), True)

    def test_the_first_desk_of_the_house_need_not_be_in_it(self):
        house = house_with("abc", [("a", "b", (1,)), ("b", "b", (0,)), ("c", "c", (0,))])
        self.assertIs(hangs_together(house, (0, 1, 0)), True)
        self.assertIs(hangs_together(house, (0, 0, 1)), True)
        self.assertIs(hangs_together(house, (0, 1, 1)), False)

    def test_of_many_bundles_added(self):
        dice = Dice(42)
        counts = {True: 0, False: 0}
        for turn in range(250):
            house = dice.one_of((stepped_house, wound_house))(dice)
            bundles = told_bundles(house)
            for ones, others in itertools.product(bundles[:5], repeat=2):
                amounts = times_added(1 + dice.below(3), ones, dice.below(3), others)
                self.assertIs(is_bundle(house, amounts), True)
                plain = plain_hangs(house, amounts)
                self.assertIs(hangs_together(house, amounts), plain)
                counts[plain] += 1
        self.assertGreater(min(counts.values()), 300)


class Gain(unittest.TestCase):
    HOUSE = house_with("ab", [("a", "b", (1, -2)), ("b", "b", (0, 1))], ways=2)

    def test_hours(self):
        self.assertEqual(gain(self.HOUSE, 0, (0, 0), {"a": 5, "b": 3}), 2)
        self.assertEqual(gain(self.HOUSE, 0, (0, 0), {"a": 3, "b": 5}), -2)
        self.assertEqual(gain(self.HOUSE, 1, (0, 0), {"a": 3, "b": 5}), 0)

    def test_rows(self):
        hours = {"a": 0, "b": 0}
        self.assertEqual(gain(self.HOUSE, 0, (1, 0), hours), -1)
        self.assertEqual(gain(self.HOUSE, 0, (0, 1), hours), 2)
        self.assertEqual(gain(self.HOUSE, 0, (-3, 4), hours), 11)
        self.assertEqual(gain(self.HOUSE, 1, (-3, 4), hours), -4)

    def test_both(self):
        self.assertEqual(gain(self.HOUSE, 0, (1, 1), {"a": 10, "b": 4}), 7)

    def test_great_numbers(self):
        hours = {"a": MOST, "b": -MOST}
        self.assertEqual(gain(self.HOUSE, 0, (-MOST, MOST), hours), 5 * MOST)
        self.assertEqual(gain(self.HOUSE, 0, (MOST, -MOST), {"a": -MOST, "b": MOST}), -5 * MOST)
        self.assertEqual(gain(self.HOUSE, 1, (MOST, MOST), hours), -MOST)

    def test_how_much_later_at_all_places(self):
        dice = Dice(43)
        for turn in range(200):
            house = stepped_house(dice)
            ways = house[0]
            most = dice.one_of((2, MOST))
            row = tuple([dice.below(2 * most + 1) - most for way in range(ways)])
            hours = {name: dice.below(2 * most + 1) - most for name, rule in house[2]}
            for number, (name, other, away) in enumerate(steps_of(house)):
                for place in ((0,) * ways, (3,) * ways, tuple([dice.below(2001) - 1000 for way in range(ways)])):
                    later = hand_time(row, hours, (name, place)) - hand_time(row, hours, (other, plain_led(place, away)))
                    self.assertEqual(gain(house, number, row, hours), later)


class BundleOrHand(unittest.TestCase):
    def assert_told(self, house, some, number):
        """What is told, once it is seen to be right."""
        told = bundle_or_hand(house, some, number)
        self.assertIsInstance(told, tuple)
        if told[0] == "bundle":
            self.assertEqual(len(told), 2)
            amounts = told[1]
            self.assertIsInstance(amounts, tuple)
            self.assertEqual(len(amounts), len(steps_of(house)))
            self.assertTrue(plain_is_bundle(house, amounts))
            self.assertIs(is_bundle(house, amounts), True)
            self.assertGreater(amounts[number], 0)
            self.assertTrue(all(one in some for one, amount in enumerate(amounts) if amount != 0))
        else:
            word, row, hours = told
            self.assertEqual(word, "hand")
            self.assertIsInstance(row, tuple)
            self.assertEqual(len(row), house[0])
            self.assertEqual(set(hours), {name for name, rule in house[2]})
            gains = {one: gain(house, one, row, hours) for one in some}
            self.assertGreaterEqual(min(gains.values()), 0)
            self.assertGreaterEqual(gains[number], 1)
            numbers = list(row) + list(hours.values())
            self.assertTrue(all(isinstance(one, int) for one in numbers))
        return told

    def test_one_step(self):
        house = house_with("a", [("a", "a", (-1,))])
        self.assertEqual(self.assert_told(house, (0,), 0)[0], "hand")
        still = house_with("a", [("a", "a", (0,))])
        self.assertEqual(self.assert_told(still, (0,), 0)[0], "bundle")
        over = house_with("ab", [("a", "b", (0,))])
        self.assertEqual(self.assert_told(over, (0,), 0)[0], "hand")

    def test_forth_and_back(self):
        house = house_with("a", [("a", "a", (2,)), ("a", "a", (-1,))])
        for some in ((0, 1), (1, 0)):
            for number in (0, 1):
                word, amounts = self.assert_told(house, some, number)
                self.assertEqual((word, 2 * amounts[0]), ("bundle", amounts[1]))

    def test_of_some_steps_alone(self):
        house = house_with("a", [("a", "a", (2,)), ("a", "a", (-1,)), ("a", "a", (-2,))])
        self.assertEqual(self.assert_told(house, (0,), 0)[0], "hand")
        self.assertEqual(self.assert_told(house, (2, 1), 2)[0], "hand")
        word, amounts = self.assert_told(house, (2, 0), 0)
        self.assertEqual((word, amounts[1]), ("bundle", 0))
        word, amounts = self.assert_told(house, (1, 0), 0)
        self.assertEqual((word, amounts[2]), ("bundle", 0))

    def test_a_step_beside_a_bundle(self):
        house = house_with("ab", [("a", "a", (1, 0)), ("a", "a", (-1, 0)), ("a", "a", (1, 1)), ("a", "b", (2, 2))], ways=2)
        for number, word in enumerate(("bundle", "bundle", "hand", "hand")):
            self.assertEqual(self.assert_told(house, (3, 1, 0, 2), number)[0], word)

    def test_a_bundle_that_does_not_hang_together(self):
        house = house_with("ab", [("a", "a", (1,)), ("a", "b", (0,)), ("b", "b", (-2,))])
        word, amounts = self.assert_told(house, (0, 1, 2), 0)
        self.assertEqual((word, amounts[0], amounts[1]), ("bundle", 2 * amounts[2], 0))
        self.assertEqual(self.assert_told(house, (0, 1, 2), 1)[0], "hand")

    def test_six_desks_round_about(self):
        names = "abcdef"
        for last, word in ((-1, "hand"), (0, "bundle"), (1, "hand")):
            steps = [(name, other, (k % 3 - 1,)) for k, (name, other) in enumerate(zip(names, names[1:]))]
            shut = -sum([step[2][0] for step in steps]) + last
            house = house_with(names, steps + [("f", "a", (shut,))])
            for number in range(6):
                self.assertEqual(self.assert_told(house, (5, 4, 3, 2, 1, 0), number)[0], word)

    def test_rows_of_999(self):
        house = house_with("a", [("a", "a", (999, -998)), ("a", "a", (-998, 999)), ("a", "a", (-1, -2))], ways=2)
        self.assertEqual(self.assert_told(house, (0, 1, 2), 2)[0], "bundle")
        self.assertEqual(self.assert_told(house, (0, 1), 0)[0], "hand")
        dice = Dice(44)
        for turn in range(60):
            house = stepped_house(dice, 999)
            for number in all_steps(house):
                self.assert_told(house, all_steps(house), number)

    def test_of_many_houses(self):
        dice = Dice(45)
        seen = {}
        for turn in range(500):
            house = dice.one_of((stepped_house, good_house, wound_house))(dice)
            steps = all_steps(house)
            for number in steps:
                some = tuple(stirred(dice, [one for one in steps if one == number or dice.below(4)]))
                told = self.assert_told(house, dice.one_of((some, steps, steps[::-1])), number)
                seen[told[0]] = seen.get(told[0], 0) + 1
            for key in (("ways", house[0]), ("desks", len(house[2])), ("steps", len(steps))):
                seen[key] = seen.get(key, 0) + 1
        self.assertGreater(min(seen["bundle"], seen["hand"]), 800)
        for key in [("ways", k) for k in (1, 2, 3)] + [("desks", k) for k in range(1, 7)] + [("steps", 0), ("steps", 16)]:
            self.assertIn(key, seen)


class Stays(unittest.TestCase):
    def test_what_is_handed_in_and_what_is_told(self):
        dice = Dice(46)
        for turn in range(60):
            house = stepped_house(dice)
            kept = copy.deepcopy(house)
            some = all_steps(house)
            first = [bundle_or_hand(house, some, number) for number in some]
            told = copy.deepcopy(first)
            for one in first:
                if one[0] == "hand":
                    gain(house, 0, one[1], one[2])
                    one[2].clear()
                else:
                    hangs_together(house, one[1])
                    is_bundle(house, one[1])
            self.assertEqual(house, kept)
            again = [bundle_or_hand(house, some, number) for number in reversed(some)]
            self.assertEqual(again[::-1], told)

    def test_hours(self):
        hours = {"a": 5, "b": 3}
        self.assertEqual(gain(Gain.HOUSE, 0, (0, 0), hours), 2)
        self.assertEqual(list(hours.items()), [("a", 5), ("b", 3)])
        hours["a"] = 6
        self.assertEqual(gain(Gain.HOUSE, 0, (0, 0), hours), 3)


if __name__ == "__main__":
    unittest.main()
