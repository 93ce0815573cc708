"""clockhouse.clocks: times, steps that are kept, and papers."""

import copy
import itertools
import unittest

from clockhouse.clockmaker import clock_of, paper_of
from clockhouse.clocks import first_late, paper_holds, time_of
from clockhouse.houses import steps_of
from tests.samples import (
    Dice, house_of, house_with, num, plain_kept, plain_paper_holds, plain_steps, plain_time, some_clock, stepped_house,
    wound_house,
)
from tests.test_bundles import told_bundles

MOST = 10**9
# The steps: a's own forth, a to b; b's own back, b to a.
PAIR = house_with("ab", [("a", "a", (0, 1)), ("a", "b", (-1, 0)), ("b", "b", (0, -1)), ("b", "a", (0, 0))], ways=2)
PAIR_CLOCK = {"a": (0, (((2, 0), 0), ((0, -1), 0))), "b": (0, (((2, 0), 1), ((0, 1), 7)))}


def one_step(row, ways=1):
    return house_with("ab", [("a", "b", row)], ways)


def plain_first_late(house, clock):
    late = [number for number, step in enumerate(plain_steps(house)) if not plain_kept(house, clock, step)]
    return late[0] if late else None


class TimeOf(unittest.TestCase):
    def test_a_clock_without_hands(self):
        self.assertEqual(time_of({"a": (3, ()), "b": (-4, ())}, ("a", (7, 7))), (3,))
        self.assertEqual(time_of({"a": (3, ()), "b": (-4, ())}, ("b", (7, 7))), (-4,))

    def test_hands(self):
        clock = {"a": (1, (((2, -1), 5), ((0, 3), -2))), "b": (2, (((0, 0), 0), ((1, 1), 1)))}
        self.assertEqual(time_of(clock, ("a", (0, 0))), (1, 5, -2))
        self.assertEqual(time_of(clock, ("a", (10, 4))), (1, 21, 10))
        self.assertEqual(time_of(clock, ("b", (10, -4))), (2, 0, 7))

    def test_directions(self):
        for ways in (1, 2, 3):
            clock = {"a": (0, (((1, 10, 100)[:ways], 0),))}
            self.assertEqual(time_of(clock, ("a", (4, 5, 6)[:ways])), (0, (4, 54, 654)[ways - 1]))

    def test_six_hands_and_great_numbers(self):
        clock = {"a": (-MOST, tuple([((MOST, -MOST), k * MOST) for k in range(6)]))}
        self.assertEqual(time_of(clock, ("a", (1000, -1000))), (-MOST,) + tuple([(2000 + k) * MOST for k in range(6)]))

    def test_many(self):
        dice = Dice(51)
        for turn in range(200):
            house = stepped_house(dice)
            clock = some_clock(dice, house)
            place = tuple([dice.below(2201) - 1100 for way in range(house[0])])
            for name in clock:
                told = time_of(clock, (name, place))
                self.assertIsInstance(told, tuple)
                self.assertEqual(told, plain_time(clock, (name, place)))


class FirstLate(unittest.TestCase):
    def kept(self, house, clock):
        """Whether a clock keeps the one step of a house."""
        told = first_late(house, clock)
        self.assertEqual(told, plain_first_late(house, clock))
        self.assertIn(told, (None, 0))
        return told is None

    def test_knots_alone(self):
        for knot, other, kept in ((1, 0, True), (0, 0, False), (0, 1, False), (-3, -4, True), (MOST, -MOST, True)):
            self.assertIs(self.kept(one_step((5,)), {"a": (knot, ()), "b": (other, ())}), kept)

    def test_a_knot_above_outweighs_any_hands(self):
        for hands in ((((1,), 0),), (((-1,), 9),), (((0,), -5),)):
            self.assertIs(self.kept(one_step((5,)), {"a": (1, hands), "b": (0, (((0,), 0),))}), True)
            self.assertIs(self.kept(one_step((5,)), {"a": (0, hands), "b": (1, (((0,), 0),))}), False)

    def test_gains_below_at_and_above_0(self):
        for hour in range(-4, 5):
            for away in range(-2, 3):
                for turn in (-1, 0, 1, 2):
                    clock = {"a": (0, (((turn,), hour),)), "b": (0, (((turn,), 1),))}
                    self.assertIs(self.kept(one_step((away,)), clock), hour - 1 - turn * away >= 1)

    def test_a_gain_of_0_leaves_it_to_the_next_hand(self):
        for hour, kept in ((1, True), (0, False), (-1, False)):
            clock = {"a": (0, (((1,), 2), ((0,), hour))), "b": (0, (((1,), 0), ((0,), 0)))}
            self.assertIs(self.kept(one_step((2,)), clock), kept)

    def test_the_first_gain_counts(self):
        for first, kept in ((3, True), (1, False)):
            for second in (-1, 0, 1):
                clock = {"a": (0, (((1,), first), ((0,), second))), "b": (0, (((1,), 0), ((0,), 0)))}
                self.assertIs(self.kept(one_step((2,)), clock), kept)

    def test_rows_unlike(self):
        house = one_step((-1, 0), 2)
        for row in ((2, 0), (1, 1), (0, 0), (1, -1)):
            clock = {"a": (0, ((row, MOST), ((0, 0), 5))), "b": (0, (((1, 0), -MOST), ((0, 0), 0)))}
            self.assertIs(self.kept(house, clock), False)

    def test_rows_unlike_behind_a_gain(self):
        house = one_step((-1, 0), 2)
        for hour, kept in ((0, True), (-1, False), (-2, False)):
            clock = {"a": (0, (((1, 0), hour), ((0, 1), 0))), "b": (0, (((1, 0), 0), ((0, -1), 0)))}
            self.assertIs(self.kept(house, clock), kept)

    def test_rows_unlike_where_the_rooms_are_far_apart(self):
        clock = {"a": (0, (((1, 0), 0),)), "b": (0, (((1, 1), 0),))}
        self.assertIs(self.kept(one_step((-1000, 0), 2), clock), False)

    def test_all_hands_alike(self):
        clock = {"a": (0, (((1,), 0), ((2,), 3))), "b": (0, (((1,), 0), ((2,), 3)))}
        self.assertIs(self.kept(one_step((0,)), clock), False)
        self.assertIs(self.kept(one_step((-1,)), clock), True)

    def test_a_step_to_the_same_desk(self):
        house = house_with("a", [("a", "a", (-1, 2))], 2)
        for row, kept in (((1, 0), True), ((0, -1), True), ((0, 0), False), ((2, 1), False), ((-1, 0), False),
                          ((3, 1), True)):
            self.assertIs(self.kept(house, {"a": (0, ((row, 9),))}), kept)

    def test_a_house_without_steps(self):
        self.assertIsNone(first_late(house_of(("a", num(0))), {"a": (0, ())}))

    def test_the_first_step_that_is_not_kept(self):
        self.assertIsNone(first_late(PAIR, PAIR_CLOCK))
        knot, (first, second) = PAIR_CLOCK["a"]
        self.assertEqual(first_late(PAIR, {**PAIR_CLOCK, "a": (0, (first, ((0, 1), 0)))}), 0)
        self.assertEqual(first_late(PAIR, {**PAIR_CLOCK, "a": (0, (((2, 0), -5), second))}), 1)
        self.assertEqual(first_late(PAIR, {**PAIR_CLOCK, "b": (0, (((2, 0), 1), ((0, -1), 0)))}), 2)
        self.assertEqual(first_late(PAIR, {**PAIR_CLOCK, "b": (0, (((2, 0), 0), ((0, 1), 0)))}), 3)
        self.assertEqual(first_late(PAIR, {**PAIR_CLOCK, "a": (1, (first, second))}), 3)
        self.assertEqual(first_late(PAIR, {**PAIR_CLOCK, "b": (1, PAIR_CLOCK["b"][1])}), 1)
        self.assertEqual(first_late(PAIR, {"a": (0, ()), "b": (0, ())}), 0)

    def test_of_many_clocks(self):
        dice = Dice(52)
        seen = {}
        for turn in range(1500):
            house = stepped_house(dice, dice.one_of((1, 2)))
            clock = some_clock(dice, house)
            told = first_late(house, clock)
            self.assertEqual(told, plain_first_late(house, clock))
            seen[told] = seen.get(told, 0) + 1
        self.assertGreater(seen[None], 80)
        self.assertGreater(len(seen), 6)

    def test_of_told_clocks_with_a_number_changed(self):
        dice = Dice(53)
        seen = {}
        for turn in range(400):
            house = wound_house(dice)
            word, clock = clock_of(house)
            name = dice.one_of(list(clock))
            knot, hands = clock[name]
            at = dice.below(len(hands))
            row, hour = hands[at]
            new = (row, hour + dice.below(5) - 2) if dice.below(3) else (tuple([number + dice.below(2) for number in row]), hour)
            clock[name] = (knot, hands[:at] + (new,) + hands[at + 1:])
            told = first_late(house, clock)
            self.assertEqual(told, plain_first_late(house, clock))
            seen[told] = seen.get(told, 0) + 1
        self.assertGreater(len(seen), 6)


class PaperHolds(unittest.TestCase):
    # a and b have own rows against one another, c and d too; the two twos likewise; all are one knot.
    DEEP = house_with("abcd", [
        ("a", "a", (0, 0, 1)), ("a", "b", (0, 1, 0)), ("a", "c", (1, 0, 0)), ("b", "b", (0, 0, -1)), ("b", "a", (0, 0, 0)),
        ("c", "c", (0, 0, 1)), ("c", "d", (0, -1, 0)), ("c", "a", (0, 0, 0)), ("d", "d", (0, 0, -1)), ("d", "c", (0, 0, 0))],
        ways=3)
    WIDE = (1, 1, 0, 1, 1, 1, 1, 0, 1, 1)
    LEFT = (2, 0, 0, 2, 0, 0, 0, 0, 0, 0)
    RIGHT = (0, 0, 0, 0, 0, 3, 0, 0, 3, 0)
    CROSS = (1, 0, 0, 0, 0, 0, 0, 0, 1, 0)

    def assert_holds(self, house, paper, holds):
        self.assertIs(paper_holds(house, paper), holds)
        self.assertIs(plain_paper_holds(house, paper), holds)

    def test_the_empty_paper(self):
        for house in (PAIR, self.DEEP, house_of(("a", num(0))), house_with("a", [("a", "a", (0,))])):
            self.assert_holds(house, (), True)

    def test_one_bundle(self):
        self.assert_holds(PAIR, ((1, 0, 1, 0),), True)
        self.assert_holds(PAIR, ((MOST, 0, MOST, 0),), True)
        for amounts in (self.WIDE, self.LEFT, self.RIGHT, self.CROSS):
            self.assert_holds(self.DEEP, (amounts,), True)

    def test_amounts_that_are_no_bundle(self):
        for amounts in ((0, 0, 0, 0), (1, 0, 2, 0), (1, 0, 1, 1), (-1, 0, -1, 0), (1, 1, 1, 1), (1, 0, 0, 0)):
            self.assert_holds(PAIR, (amounts,), False)
            self.assert_holds(PAIR, ((1, 0, 1, 0), amounts), False)

    def test_within_one_knot_of_the_house(self):
        apart = house_with("ab", [("a", "a", (1,)), ("a", "b", (0,)), ("b", "b", (-1,))])
        self.assert_holds(apart, ((1, 0, 1),), False)
        one_way = house_with("ab", [("a", "a", (1,)), ("a", "a", (-1,)), ("b", "b", (-1,)), ("b", "b", (1,))])
        self.assert_holds(one_way, ((1, 1, 0, 0),), True)
        self.assert_holds(one_way, ((0, 0, 1, 1),), True)
        self.assert_holds(one_way, ((1, 1, 1, 1),), False)

    def test_within_one_knot_of_the_one_ahead(self):
        self.assert_holds(self.DEEP, (self.WIDE, self.LEFT), True)
        self.assert_holds(self.DEEP, (self.WIDE, self.RIGHT), True)
        self.assert_holds(self.DEEP, (self.WIDE, self.CROSS), False)
        both = tuple([a + b for a, b in zip(self.LEFT, self.RIGHT)])
        self.assert_holds(self.DEEP, (self.WIDE, both), False)
        self.assert_holds(self.DEEP, (both,), True)

    def test_among_the_steps_of_the_one_ahead(self):
        thin = (0, 1, 0, 0, 1, 0, 1, 0, 0, 1)
        self.assert_holds(self.DEEP, (thin,), True)
        self.assert_holds(self.DEEP, (thin, self.LEFT), False)
        self.assert_holds(self.DEEP, (self.LEFT, self.WIDE), False)
        self.assert_holds(self.DEEP, (self.LEFT, self.RIGHT), False)

    def test_desks_that_stand_apart_in_the_one_ahead(self):
        # The steps of LEFT are each a desk's own, so they don't lie in one knot of themselves.
        self.assert_holds(self.DEEP, (self.LEFT, self.LEFT), False)
        self.assert_holds(self.DEEP, (self.WIDE, self.LEFT, self.LEFT), False)

    def test_a_bundle_that_hangs_together_may_stand_again(self):
        house = house_with("a", [("a", "a", (1,)), ("a", "a", (-1,))])
        self.assert_holds(house, ((1, 1), (2, 2), (1, 1)), True)
        self.assert_holds(house, ((1, 1), (2, 1), (1, 1)), False)

    def test_a_house_without_steps(self):
        self.assert_holds(house_of(("a", num(0))), ((),), False)

    def test_of_many_papers(self):
        dice = Dice(54)
        counts = {True: 0, False: 0}
        for turn in range(300):
            house = dice.one_of((stepped_house, wound_house))(dice)
            bundles = told_bundles(house)[:6]
            if isinstance(clock_of(house)[1], dict):
                bundles.extend(paper_of(house))
            bundles.extend([tuple(map(sum, zip(ones, others))) for ones, others in itertools.combinations(bundles, 2)])
            if bundles:
                for turn_within in range(6):
                    paper = tuple([dice.one_of(bundles) for part in range(1 + dice.below(3))])
                    if not dice.below(8):
                        paper += (tuple([dice.below(2) for step in steps_of(house)]),)
                    plain = plain_paper_holds(house, paper)
                    self.assert_holds(house, paper, plain)
                    counts[plain] += 1
        self.assertGreater(min(counts.values()), 200)


class Stays(unittest.TestCase):
    def test_what_is_handed_in(self):
        clock = copy.deepcopy(PAIR_CLOCK)
        self.assertIsNone(first_late(PAIR, clock))
        self.assertEqual(time_of(clock, ("b", (2, 3))), (0, 5, 10))
        self.assertEqual(list(clock.items()), list(PAIR_CLOCK.items()))

    def test_asked_again_with_another_clock_between(self):
        for turn in range(2):
            self.assertIsNone(first_late(PAIR, PAIR_CLOCK))
            self.assertEqual(first_late(PAIR, {"a": (0, ()), "b": (0, ())}), 0)
        clock = copy.deepcopy(PAIR_CLOCK)
        self.assertIsNone(first_late(PAIR, clock))
        clock["b"] = (1, clock["b"][1])
        self.assertEqual(first_late(PAIR, clock), 1)


if __name__ == "__main__":
    unittest.main()
