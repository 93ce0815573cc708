"""clockhouse.knots: desks that some steps lead between, forth and back."""

import itertools
import unittest

from clockhouse.houses import steps_of
from clockhouse.knots import knots_of
from tests.samples import Dice, house_of, house_with, num, plain_knots, stepped_house


def linked(names, *links):
    """A house of these desks, with a step for each link (two names), desk by desk."""
    steps = [(name, other, (k,)) for k, (name, other) in enumerate(links)]
    return house_with(names, steps)


def all_steps(house):
    return tuple(range(len(steps_of(house))))


class Knots(unittest.TestCase):
    def test_no_steps_at_all(self):
        house = house_of(("b", num(0)), ("a", num(1)), ("c", num(2)))
        self.assertEqual(knots_of(house, ()), (("b",), ("a",), ("c",)))

    def test_of_none(self):
        house = linked("ba", "ab", "ba")
        self.assertEqual(knots_of(house, ()), (("b",), ("a",)))

    def test_one_desk(self):
        self.assertEqual(knots_of(linked("a"), ()), (("a",),))
        self.assertEqual(knots_of(linked("a", "aa", "aa"), (0, 1)), (("a",),))

    def test_there_and_back(self):
        self.assertEqual(knots_of(linked("ba", "ab", "ba"), (0, 1)), (("b", "a"),))

    def test_there_alone(self):
        self.assertEqual(knots_of(linked("ba", "ba"), (0,)), (("a",), ("b",)))
        self.assertEqual(knots_of(linked("ba", "ab"), (0,)), (("b",), ("a",)))

    def test_some_of_the_steps(self):
        house = linked("ab", "ab", "ba")
        self.assertEqual(knots_of(house, (0, 1)), (("a", "b"),))
        self.assertEqual(knots_of(house, (0,)), (("b",), ("a",)))
        self.assertEqual(knots_of(house, (1,)), (("a",), ("b",)))

    def test_a_long_way_round(self):
        house = linked("abcdef", "ab", "bc", "cd", "de", "ef", "fa")
        self.assertEqual(knots_of(house, (0, 1, 2, 3, 4, 5)), (tuple("abcdef"),))
        self.assertEqual(knots_of(house, (5, 3, 1, 0, 4)), tuple([(name,) for name in "cbafed"]))

    def test_names_in_the_houses_order(self):
        house = linked("fbd", "df", "fb", "bd")
        self.assertEqual(knots_of(house, (0, 1, 2)), (("f", "b", "d"),))
        apart = linked("zcya", "yz", "zy", "ac", "ca")
        self.assertEqual(knots_of(apart, (0, 1, 2, 3)), (("z", "y"), ("c", "a")))

    def test_the_first_in_the_house_of_those_that_are_due(self):
        # b and d are due at the start; a only behind d, c only behind a.
        house = linked("abcd", "ad", "ca")
        self.assertEqual(knots_of(house, (0, 1)), (("b",), ("d",), ("a",), ("c",)))

    def test_one_that_becomes_due_goes_ahead_of_those_that_were(self):
        house = linked("abcd", "ab")
        self.assertEqual(knots_of(house, (0,)), (("b",), ("a",), ("c",), ("d",)))
        farther = linked("abcd", "ac")
        self.assertEqual(knots_of(farther, (0,)), (("b",), ("c",), ("a",), ("d",)))

    def test_a_knot_waits_for_the_others_of_each_of_its_desks(self):
        house = linked("abcd", "ab", "ba", "bd")
        self.assertEqual(knots_of(house, (0, 1, 2)), (("c",), ("d",), ("a", "b")))

    def test_the_first_desk_of_a_knot_counts(self):
        house = linked("abcde", "ae", "ea", "bc", "cb")
        self.assertEqual(knots_of(house, (0, 1, 2, 3)), (("a", "e"), ("b", "c"), ("d",)))
        late = linked("abcde", "bd", "db", "ac", "bc")
        self.assertEqual(knots_of(late, all_steps(late)), (("c",), ("a",), ("b", "d"), ("e",)))

    def test_steps_to_itself_hinder_nothing(self):
        house = linked("ab", "aa", "bb", "ab")
        self.assertEqual(knots_of(house, all_steps(house)), (("b",), ("a",)))

    def test_some_in_any_order(self):
        house = linked("abcd", "ab", "ba", "ac", "cd", "dc")
        for some in itertools.permutations(range(5)):
            self.assertEqual(knots_of(house, some), (("c", "d"), ("a", "b")))

    def test_of_many_houses(self):
        dice = Dice(21)
        counts = {}
        for turn in range(600):
            house = stepped_house(dice)
            many = len(steps_of(house))
            some = tuple([number for number in reversed(range(many)) if dice.below(3)])
            for numbers in (some, all_steps(house)):
                told = knots_of(house, numbers)
                self.assertIsInstance(told, tuple)
                self.assertTrue(all(isinstance(knot, tuple) for knot in told))
                self.assertEqual(told, plain_knots(house, numbers))
                self.assertEqual(sorted([name for knot in told for name in knot]),
                                 sorted([name for name, rule in house[2]]))
            counts[len(told)] = counts.get(len(told), 0) + 1
        self.assertEqual(set(counts), {1, 2, 3, 4, 5, 6})

    def test_the_same_behind_other_questions(self):
        dice = Dice(22)
        houses = [stepped_house(dice) for turn in range(30)]
        first = [(knots_of(house, all_steps(house)), knots_of(house, ())) for house in houses]
        again = [(knots_of(house, all_steps(house)), knots_of(house, ())) for house in houses[::-1]]
        self.assertEqual(again[::-1], first)


if __name__ == "__main__":
    unittest.main()
