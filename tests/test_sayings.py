"""clockhouse.sayings: either numbers by which all sayings hold, one by far, or amounts that tell why not."""

import copy
import unittest

from clockhouse.sayings import common_part, weighed
from tests.samples import Dice


def some_sayings(dice):
    unknowns = 1 + dice.below(9)
    most = dice.one_of((1, 2, 3, 10**9))
    sayings = []
    for turn in range(1 + dice.below(16)):
        saying = tuple([dice.below(2 * most + 1) - most for unknown in range(unknowns)])
        kind = dice.below(8) if sayings else 7
        if kind == 0:
            saying = tuple([0] * unknowns)
        if kind == 1:
            saying = tuple([-factor for factor in dice.one_of(sayings)])
        if kind == 2:
            saying = tuple([2 * a - b for a, b in zip(dice.one_of(sayings), dice.one_of(sayings))])
        sayings.append(saying)
    return sayings


class Weighed(unittest.TestCase):
    def assert_weighed(self, sayings, number):
        word, told = weighed(sayings, number)
        if word == "numbers":
            worths = [sum([factor * one for factor, one in zip(saying, told)]) for saying in sayings]
            self.assertEqual(len(told), len(sayings[0]))
            self.assertGreaterEqual(min(worths), 0)
            self.assertGreaterEqual(worths[number], 1)
        else:
            self.assertEqual(word, "amounts")
            self.assertEqual(len(told), len(sayings))
            self.assertGreaterEqual(min(told), 0)
            self.assertGreater(told[number], 0)
            for factors in zip(*sayings):
                self.assertEqual(sum([factor * amount for factor, amount in zip(factors, told)]), 0)
        return word, told

    def test_one_saying(self):
        self.assertEqual(self.assert_weighed([(3,)], 0), ("numbers", [1]))
        self.assertEqual(self.assert_weighed([(-3, 0)], 0), ("numbers", [-1, 0]))

    def test_a_saying_of_noughts(self):
        self.assertEqual(self.assert_weighed([(0, 0)], 0), ("amounts", [1]))
        self.assertEqual(self.assert_weighed([(1, 0), (0, 0)], 1), ("amounts", [0, 1]))
        self.assertEqual(self.assert_weighed([(1, 0), (0, 0)], 0)[0], "numbers")

    def test_two_against_one_another(self):
        self.assertEqual(self.assert_weighed([(2,), (-3,)], 0), ("amounts", [3, 2]))
        self.assertEqual(self.assert_weighed([(2,), (-3,)], 1), ("amounts", [3, 2]))
        self.assertEqual(self.assert_weighed([(2, 0), (-3, 1)], 1)[0], "numbers")

    def test_three_that_come_round(self):
        sayings = [(1, -1, 0), (0, 1, -1), (-1, 0, 1)]
        for number in range(3):
            self.assertEqual(self.assert_weighed(sayings, number), ("amounts", [1, 1, 1]))

    def test_one_beside_two_against_one_another(self):
        sayings = [(1, 0), (-1, 0), (5, 1)]
        self.assertEqual(self.assert_weighed(sayings, 0)[0], "amounts")
        self.assertEqual(self.assert_weighed(sayings, 2), ("numbers", [0, 1]))

    def test_many(self):
        dice = Dice(31)
        counts = {"numbers": 0, "amounts": 0}
        for turn in range(1500):
            sayings = some_sayings(dice)
            word, told = self.assert_weighed(sayings, dice.below(len(sayings)))
            counts[word] += 1
        self.assertGreater(min(counts.values()), 300)

    def test_what_is_handed_in_stays_and_is_answered_again(self):
        dice = Dice(32)
        for turn in range(50):
            sayings = some_sayings(dice)
            kept = copy.deepcopy(sayings)
            first = weighed(sayings, 0)
            told = copy.deepcopy(first)
            first[1].clear()
            self.assertEqual(sayings, kept)
            self.assertEqual(weighed(sayings, 0), told)


class CommonPart(unittest.TestCase):
    def test_of_several(self):
        for numbers, part in (([], 0), ([0, 0], 0), ([0, 6, 0], 6), ([6, -4], 2), ([-9, 27, 6], 3), ([5, 7], 1)):
            self.assertEqual(common_part(numbers), part)


if __name__ == "__main__":
    unittest.main()
