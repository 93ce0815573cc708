"""clockhouse.clockmaker: clocks of as few hands as can be and their papers, or bundles that hang together."""

import copy
import itertools
import unittest

from clockhouse.bundles import hangs_together, is_bundle
from clockhouse.clockmaker import clock_of, paper_of
from clockhouse.clocks import first_late, paper_holds, time_of
from clockhouse.houses import steps_of, waits_for
from clockhouse.lots import box
from clockhouse.needs import reckoned
from tests.samples import (
    Dice, crossed_house, good_house, house_of, house_with, num, plain_hangs, plain_is_bundle, plain_kept, plain_knots,
    plain_paper_holds, plain_steps, stepped_house, wound_house, wound_steps,
)


class Made(unittest.TestCase):
    def assert_clock(self, house, many=None):
        """The told clock, once it and its paper are seen to be right; many, how many hands it is to have."""
        told = clock_of(house)
        self.assertIsInstance(told, tuple)
        word, clock = told
        self.assertEqual(word, "clock")
        self.assertEqual(set(clock), {name for name, rule in house[2]})
        knots = plain_knots(house, tuple(range(len(steps_of(house)))))
        counts = set()
        for name, (knot, hands) in clock.items():
            self.assertIn(name, knots[knot])
            self.assertIsInstance(hands, tuple)
            counts.add(len(hands))
            for row, hour in hands:
                self.assertIsInstance(row, tuple)
                self.assertEqual([isinstance(number, int) for number in row + (hour,)], [True] * (house[0] + 1))
        self.assertEqual(len(counts), 1)
        hands = counts.pop()
        self.assertEqual(hands, hands if many is None else many)
        self.assertLessEqual(hands, house[0])
        self.assertIsNone(first_late(house, clock))
        self.assertTrue(all(plain_kept(house, clock, step) for step in plain_steps(house)))
        within = [step for step in plain_steps(house) for knot in knots if step[0] in knot and step[1] in knot]
        self.assertEqual(hands > 0, len(within) > 0)
        self.assert_paper(house, hands)
        return clock

    def assert_paper(self, house, hands):
        paper = paper_of(house)
        self.assertIsInstance(paper, tuple)
        self.assertEqual(len(paper), max(hands - 1, 0))
        self.assertTrue(plain_paper_holds(house, paper))
        self.assertIs(paper_holds(house, paper), True)

    def assert_ring(self, house):
        told = clock_of(house)
        self.assertIsInstance(told, tuple)
        word, amounts = told
        self.assertEqual(word, "ring")
        self.assertIsInstance(amounts, tuple)
        self.assertEqual(len(amounts), len(steps_of(house)))
        self.assertTrue(plain_is_bundle(house, amounts))
        self.assertIs(is_bundle(house, amounts), True)
        self.assertTrue(plain_hangs(house, amounts))
        self.assertIs(hangs_together(house, amounts), True)
        return amounts

    def assert_made(self, house):
        """How many hands the told clock has, or the word ring."""
        if clock_of(house)[0] == "ring":
            self.assert_ring(house)
            return "ring"
        clock = self.assert_clock(house)
        return len(clock[house[2][0][0]][1])


class NoHands(Made):
    def test_a_house_without_steps(self):
        self.assertEqual(self.assert_clock(house_of(("b", num(0)), ("a", num(1))), 0), {"b": (0, ()), "a": (1, ())})

    def test_steps_between_knots_alone(self):
        house = house_with("abc", [("a", "b", (1,)), ("a", "b", (-1,)), ("b", "c", (5,)), ("a", "c", (0,))])
        self.assertEqual(self.assert_clock(house, 0), {"a": (2, ()), "b": (1, ()), "c": (0, ())})

    def test_knots_are_numbered_as_they_are_told(self):
        house = house_with("abcd", [("a", "d", (1,)), ("c", "a", (0,))])
        self.assertEqual({name: knot for name, (knot, hands) in self.assert_clock(house, 0).items()},
                         {"b": 0, "d": 1, "a": 2, "c": 3})


class OneHand(Made):
    def test_one_step(self):
        for row in ((1,), (-2,), (0, 1), (-1, 0), (2, -2, 1), (0, 0, -1)):
            self.assert_clock(house_with("a", [("a", "a", row)], len(row)), 1)

    def test_a_triangle_of_sums(self):
        self.assert_clock(house_with("a", [("a", "a", (-1, 0)), ("a", "a", (0, -1)), ("a", "a", (-1, -1))], 2), 1)

    def test_desks_apart_whose_own_rows_stand_against_one_another(self):
        house = house_with("ab", [("a", "a", (1,)), ("a", "b", (2,)), ("b", "b", (-1,))])
        clock = self.assert_clock(house, 1)
        self.assertEqual((clock["a"][0], clock["b"][0]), (1, 0))
        self.assertNotEqual(clock["a"][1][0][0], clock["b"][1][0][0])

    def test_a_desk_without_steps_beside_one_with(self):
        house = house_with("abc", [("b", "b", (1,)), ("c", "a", (1,))])
        self.assert_clock(house, 1)

    def test_a_ring_of_desks_that_goes_on(self):
        house = house_with("abc", [("a", "b", (2,)), ("b", "c", (-2,)), ("c", "a", (-1,))])
        self.assert_clock(house, 1)

    def test_rows_within_a_half_plane(self):
        rows = [(2, 1), (1, 2), (-1, 2), (2, -1), (0, 1), (1, 0), (-1, 1)]
        self.assert_clock(house_with("a", [("a", "a", row) for row in rows], 2), 1)


class MoreHands(Made):
    PAIR = house_with("ab", wound_steps("ab", 2), 2)
    DEEP = house_with("abcd", wound_steps("abcd", 3), 3)

    def test_two(self):
        clock = self.assert_clock(self.PAIR, 2)
        self.assertEqual(clock["a"][1][0][0], clock["b"][1][0][0])
        self.assertNotEqual(clock["a"][1][1][0], clock["b"][1][1][0])

    def test_three(self):
        self.assert_clock(self.DEEP, 3)

    def test_as_many_hands_for_all_desks(self):
        ways, wheel, desks = self.PAIR
        more = house_with("cd", [("c", "c", (1, 1)), ("d", "c", (0, 0))], 2)
        self.assert_clock((ways, wheel, desks + more[2]), 2)
        self.assert_clock((ways, wheel, more[2] + desks), 2)

    def test_no_small_clock_of_one_hand_keeps_them(self):
        numbers = range(-2, 3)
        for row in itertools.product(numbers, repeat=2):
            for other in itertools.product(numbers, repeat=2):
                for hours in itertools.product(range(-3, 4), repeat=2):
                    clock = {"a": (0, ((row, hours[0]),)), "b": (0, ((other, hours[1]),))}
                    self.assertIsNotNone(first_late(self.PAIR, clock))

    def test_moved_and_turned(self):
        dice = Dice(61)
        seen = {}
        for turn in range(150):
            house = wound_house(dice)
            self.assert_clock(house, house[0])
            seen[house[0]] = seen.get(house[0], 0) + 1
        self.assertGreater(min(seen[2], seen[3]), 40)


class Rings(Made):
    def test_a_step_that_leads_nowhere(self):
        self.assertGreater(self.assert_ring(house_with("a", [("a", "a", (0, 0))], 2))[0], 0)

    def test_there_and_back(self):
        self.assert_ring(house_with("a", [("a", "a", (2,)), ("a", "a", (-1,))]))
        self.assert_ring(house_with("ab", [("a", "b", (3,)), ("b", "a", (-3,))]))

    def test_in_one_of_several_knots(self):
        house = house_with("abc", [("a", "a", (1,)), ("a", "b", (0,)), ("b", "b", (1,)), ("b", "b", (-2,)), ("c", "c", (1,))])
        amounts = self.assert_ring(house)
        self.assertEqual((amounts[0], amounts[1], amounts[4]), (0, 0, 0))

    def test_by_a_desk_that_links_two_others(self):
        # The two own rows cancel; the way between the desks comes back to where it began.
        house = house_with("ab", [("a", "a", (1,)), ("a", "b", (5,)), ("b", "b", (-1,)), ("b", "a", (-5,))])
        self.assert_ring(house)
        self.assert_ring(house_with("ab", [("a", "a", (1,)), ("a", "b", (5,)), ("b", "b", (-1,)), ("b", "a", (-7,))]))

    def test_in_three_directions(self):
        rows = [(1, 0, 0), (0, 1, 0), (0, 0, 1), (-1, -1, -2)]
        house = house_with("a", [("a", "a", row) for row in rows], 3)
        amounts = self.assert_ring(house)
        self.assertEqual([amount // amounts[0] for amount in amounts], [1, 1, 2, 1])
        self.assert_clock(house_with("a", [("a", "a", row) for row in rows[:3]], 3), 1)

    def test_that_is_seen_behind_the_first_hand_alone(self):
        # f and a go round as a knot of their own once b's ways to and from them are parted by the first hand.
        steps = [("b", "b", (-1, 0)), ("b", "a", (1, 0)), ("a", "a", (-1, 0)), ("a", "f", (1, -1)), ("f", "f", (1, 0)),
                 ("f", "b", (0, -1)), ("f", "a", (0, 1))]
        self.assert_ring(house_with("baf", steps, 2))

    def test_no_clock_keeps_the_steps_of_a_ring(self):
        house = house_with("a", [("a", "a", (2,)), ("a", "a", (-1,))])
        for turn, second, hour in itertools.product(range(-3, 4), repeat=3):
            self.assertIsNotNone(first_late(house, {"a": (0, (((turn,), hour), ((second,), hour)))}))


class ManyHouses(Made):
    def test_just_one_of_two(self):
        dice = Dice(62)
        seen = {}
        for turn in range(700):
            house = dice.one_of((stepped_house, good_house, crossed_house))(dice)
            made = self.assert_made(house)
            seen[made] = seen.get(made, 0) + 1
        self.assertEqual(set(seen), {"ring", 0, 1, 2, 3})
        self.assertGreater(min(seen.values()), 15)

    def test_of_one_to_six_desks_and_one_to_three_directions(self):
        dice = Dice(63)
        seen = {}
        for turn in range(400):
            house = stepped_house(dice, 1)
            seen[(house[0], len(house[2]), self.assert_made(house) == "ring")] = True
        self.assertEqual(len(seen), 36)

    def test_rows_of_999(self):
        dice = Dice(64)
        for turn in range(60):
            self.assert_made(stepped_house(dice, 999))

    def test_of_a_house_with_a_clock_no_lot_has_a_ring(self):
        dice = Dice(65)
        for turn in range(150):
            house = stepped_house(dice)
            word, clock = clock_of(house)
            if word == "clock":
                lot = box(house, (4, 3, 2)[:house[0]])
                self.assertEqual(reckoned(house, lot, {})[0], "told")
                for cell in lot:
                    for other in waits_for(house, cell):
                        self.assertGreater(time_of(clock, cell), time_of(clock, other))


class Stays(unittest.TestCase):
    def test_what_is_handed_in_and_what_is_told(self):
        dice = Dice(66)
        houses = [dice.one_of((stepped_house, wound_house))(dice) for turn in range(60)]
        kept = copy.deepcopy(houses)
        first = [clock_of(house) for house in houses]
        told = copy.deepcopy(first)
        papers = [paper_of(house) for house, made in zip(houses, told) if made[0] == "clock"]
        for word, made in first:
            if word == "clock":
                made.clear()
        self.assertEqual(houses, kept)
        self.assertEqual([clock_of(house) for house in houses[::-1]][::-1], told)
        self.assertEqual([paper_of(house) for house, made in zip(houses, told) if made[0] == "clock"], papers)


if __name__ == "__main__":
    unittest.main()
