"""The promise over the whole program, over houses with a clock of none to three hands, with a ring, and with one pace."""

import copy
import unittest

from clockhouse.beats import beaten
from clockhouse.benches import led_back, plan_of
from clockhouse.bundles import bundle_or_hand, hangs_together
from clockhouse.chains import longest
from clockhouse.clockmaker import clock_of, paper_of
from clockhouse.clocks import first_late, paper_holds, time_of
from clockhouse.errors import TooLong
from clockhouse.halls import Hall
from clockhouse.houses import steps_of, waits_for
from clockhouse.lots import fits
from clockhouse.moved import moved, moved_cell, moved_clock, turned, turned_cell, turned_clock
from clockhouse.needs import needed, reckoned
from clockhouse.paces import bent, pace_of
from clockhouse.rings import ring_cells, ring_of
from clockhouse.rounds import rounds_of, run_by
from tests.samples import (
    Dice, crossed_house, good_house, hand_time, mixed, other_clock, paced_house, plain_gain, plain_hangs, plain_is_bundle,
    plain_kept, plain_led, plain_paper_holds, plain_reckoned, plain_steps, plain_waits, some_clock, some_lot, some_offsets,
    some_rim, some_table, stepped_house, stirred, wound_house,
)

EACH = 25


def hands_of(clock):
    return len(list(clock.values())[0][1])


def kind_of(house):
    word, told = clock_of(house)
    return word if word == "ring" else hands_of(told)


def drawn_houses():
    """Houses of each kind, as many of each: a dict from none to three hands, ring and pace to lists of houses."""
    dice = Dice(161)
    houses = {kind: [] for kind in (0, 1, 2, 3, "ring", "pace")}
    while min([len(some) for some in houses.values()]) < EACH:
        house = mixed(dice, dice.one_of((good_house, stepped_house, wound_house, crossed_house, paced_house))(dice))
        for kind in (kind_of(house), "pace" if pace_of(house)[0] == "pace" and plain_steps(house) else None):
            if kind is not None and len(houses[kind]) < EACH:
                houses[kind].append(house)
    return houses


HOUSES = drawn_houses()
CLOCKED = [house for kind in (0, 1, 2, 3, "pace") for house in HOUSES[kind]]
ALL = CLOCKED + HOUSES["ring"]


class ClockOrRing(unittest.TestCase):
    def test_a_clock_by_which_each_cell_comes_later_than_those_it_reads(self):
        dice = Dice(162)
        for house in CLOCKED:
            clock = clock_of(house)[1]
            self.assertTrue(all(plain_kept(house, clock, step) for step in plain_steps(house)))
            self.assertIsNone(first_late(house, clock))
            for cell in some_lot(dice, house):
                for other in waits_for(house, cell):
                    self.assertGreater(time_of(clock, cell), time_of(clock, other))

    def test_then_no_told_bundle_hangs_together(self):
        for house in CLOCKED:
            some = tuple(range(len(steps_of(house))))
            told = [bundle_or_hand(house, some, number) for number in some]
            self.assertFalse([one for one in told if one[0] == "bundle" and hangs_together(house, one[1])])

    def test_or_a_bundle_that_hangs_together(self):
        for house in HOUSES["ring"]:
            amounts = clock_of(house)[1]
            self.assertTrue(plain_is_bundle(house, amounts))
            self.assertTrue(plain_hangs(house, amounts))

    def test_then_no_clock_is_let_by(self):
        dice = Dice(163)
        for house in HOUSES["ring"]:
            for turn in range(20):
                self.assertIsNotNone(first_late(house, some_clock(dice, house)))

    def test_and_a_ring_of_steps_whose_rows_come_to_nought(self):
        told = 0
        for house in HOUSES["ring"]:
            amounts = clock_of(house)[1]
            if sum(amounts) > 2000:
                with self.assertRaises(TooLong):
                    ring_of(house, amounts)
                continue
            ring = [steps_of(house)[number] for number in ring_of(house, amounts)]
            place = (0,) * house[0]
            for (name, other, row), after in zip(ring, ring[1:] + ring[:1]):
                self.assertEqual(other, after[0])
                place = plain_led(place, row)
            self.assertEqual(place, (0,) * house[0])
            told += 1
        self.assertGreater(told, EACH // 2)

    def test_and_lots_in_which_a_cell_waits_for_itself(self):
        dice = Dice(164)
        for house in HOUSES["ring"]:
            amounts = clock_of(house)[1]
            if sum(amounts) <= 300:
                place = tuple([dice.below(100) for way in range(house[0])])
                cells = ring_cells(house, ring_of(house, amounts), place)
                self.assertEqual(reckoned(house, stirred(dice, cells), {})[0], "ring")

    def test_no_lot_of_a_house_with_a_clock_has_a_ring(self):
        dice = Dice(165)
        for house in CLOCKED:
            self.assertEqual(reckoned(house, some_lot(dice, house), {})[0], "told")


class FewestHands(unittest.TestCase):
    def test_never_more_than_directions(self):
        for kind in range(4):
            for house in HOUSES[kind]:
                self.assertEqual(hands_of(clock_of(house)[1]), kind)
                self.assertLessEqual(kind, house[0])

    def test_to_each_hand_but_the_last_a_bundle(self):
        for kind in range(4):
            for house in HOUSES[kind]:
                paper = paper_of(house)
                self.assertEqual(len(paper), max(kind - 1, 0))
                self.assertIs(paper_holds(house, paper), True)
                self.assertTrue(plain_paper_holds(house, paper))

    def test_no_hand_at_its_place_nor_one_ahead_can_part_its_steps(self):
        dice = Dice(166)
        for house in HOUSES[2] + HOUSES[3]:
            clock = clock_of(house)[1]
            for other in (clock, other_clock(dice, clock)):
                for at, amounts in enumerate(paper_of(house)):
                    for step in [step for step, amount in zip(plain_steps(house), amounts) if amount]:
                        self.assert_not_parted(other, step, at)

    def assert_not_parted(self, clock, step, at):
        name, read, away = step
        self.assertEqual(clock[name][0], clock[read][0])
        for (row, hour), (read_row, read_hour) in zip(clock[name][1][:at + 1], clock[read][1][:at + 1]):
            self.assertEqual(row, read_row)
            later = hand_time(row, {name: hour}, (name, (0,) * len(row))) - hand_time(row, {read: read_hour}, (read, away))
            self.assertEqual(later, 0)

    def test_none_is_needed_just_where_no_step_lies_within_a_knot(self):
        for kind in range(4):
            for house in HOUSES[kind]:
                clock = clock_of(house)[1]
                within = [step for step in plain_steps(house) if clock[step[0]][0] == clock[step[1]][0]]
                self.assertEqual(kind > 0, len(within) > 0)


class OneAnswer(unittest.TestCase):
    def test_by_need_by_clocks_and_by_benches(self):
        dice = Dice(167)
        benches = 0
        for house in CLOCKED:
            lot = some_lot(dice, house)
            rim = some_rim(dice, house, lot)
            answer = plain_reckoned(house, lot, rim)
            self.assertIs(fits(house, lot, rim, answer), True)
            self.assertEqual(reckoned(house, lot, rim), ("told", [answer[cell] for cell in lot]))
            clock = clock_of(house)[1]
            for other in (clock, other_clock(dice, clock)):
                for turn in (0, 1, 2, dice.below(10**9)):
                    self.assertEqual(run_by(house, lot, rim, other, turn), [answer[cell] for cell in lot])
            told = pace_of(house)
            if told[0] == "pace":
                for way in range(house[0]):
                    row, hours = bent(house, told[1], told[2], way)
                    made, most = beaten(house, plan_of(house, lot, rim, row, hours, way))
                    self.assertEqual(led_back(made, row, hours, way), answer)
                    self.assertEqual(len({work[:3] for work in made}), len(lot))
                benches += 1
        self.assertGreater(benches, EACH)

    def test_no_other_number_anywhere_is_an_answer(self):
        dice = Dice(168)
        for house in CLOCKED:
            lot = some_lot(dice, house, 12)
            rim = some_rim(dice, house, lot)
            answer = plain_reckoned(house, lot, rim)
            for cell in lot:
                other = (answer[cell] + 1 + dice.below(house[1] - 1)) % house[1]
                self.assertIs(fits(house, lot, rim, {**answer, cell: other}), False)

    def test_a_pace_is_a_clock_of_one_hand(self):
        dice = Dice(169)
        for house in HOUSES["pace"]:
            word, row, hours = pace_of(house)
            self.assertTrue(all(plain_gain(row, hours, step) >= 1 for step in plain_steps(house)))
            clock = {name: (0, ((row, hour),)) for name, hour in hours.items()}
            self.assertIsNone(first_late(house, clock))
            lot = some_lot(dice, house)
            self.assertEqual(run_by(house, lot, {}, clock, 5), reckoned(house, lot, {})[1])


class Chains(unittest.TestCase):
    def test_as_many_rounds_as_the_longest_chain_has_cells_or_more(self):
        dice = Dice(170)
        for house in CLOCKED:
            lot = some_lot(dice, house)
            chain = longest(house, lot)
            self.assertTrue(all(other in plain_waits(house, cell) for cell, other in zip(chain, chain[1:])))
            self.assertTrue(set(chain) <= set(lot))
            clock = clock_of(house)[1]
            for other in (clock, other_clock(dice, clock), other_clock(dice, clock)):
                self.assertGreaterEqual(len(rounds_of(lot, other)), len(chain))


class MovedAndTurned(unittest.TestCase):
    def assert_carried(self, house, other, carry, carry_clock):
        dice = Dice(171)
        lot = some_lot(dice, house)
        rim = some_rim(dice, house, lot)
        told = reckoned(house, lot, rim)
        new = reckoned(other, [carry(cell) for cell in lot], {carry(cell): number for cell, number in rim.items()})
        self.assertEqual(new[0], told[0])
        if told[0] == "told":
            self.assertEqual(new, told)
        self.assertEqual(kind_of(other), kind_of(house))
        self.assertEqual(pace_of(other)[0], pace_of(house)[0])
        word, clock = clock_of(house)
        if word == "clock":
            for one in (clock, other_clock(dice, clock)):
                new_clock = carry_clock(one)
                self.assertIsNone(first_late(other, new_clock))
                self.assertEqual(hands_of(new_clock), hands_of(one))
                for cell in lot:
                    self.assertEqual(time_of(new_clock, carry(cell)), time_of(one, cell))

    def test_moved(self):
        dice = Dice(172)
        for house in ALL:
            offsets = some_offsets(dice, house)
            self.assert_carried(house, moved(house, offsets), lambda cell: moved_cell(cell, offsets),
                                lambda clock: moved_clock(clock, offsets))

    def test_turned(self):
        dice = Dice(173)
        for house in ALL:
            table = some_table(dice, house[0])
            self.assert_carried(house, turned(house, table), lambda cell: turned_cell(cell, table),
                                lambda clock: turned_clock(clock, table))


class Halls(unittest.TestCase):
    def test_behind_each_change_what_reckoning_anew_tells(self):
        dice = Dice(174)
        for house in CLOCKED:
            lot = some_lot(dice, house, 25)
            rim = some_rim(dice, house, lot)
            hall = Hall(house, lot, rim)
            outside = [other for cell in lot for other in plain_waits(house, cell) if other not in lot]
            done = 0
            for turn in range(4 if outside else 0):
                cell, number = dice.one_of(outside), dice.below(10**9)
                before = hall.numbers()
                rim[cell] = number
                told = hall.change(cell, number)
                after = plain_reckoned(house, lot, rim)
                self.assertEqual(hall.numbers(), [after[one] for one in lot])
                self.assertEqual(told, [one for one, old in zip(lot, before) if old != after[one]])
                waiting = [one for one in lot if cell in plain_waits(house, one)]
                done += len([one for one in lot if set(needed(house, lot, one)) & set(waiting)])
                self.assertEqual(hall.done, done)


class Stays(unittest.TestCase):
    def told(self, house):
        """All that is told of a house by itself."""
        word, clock = clock_of(house)
        told = [steps_of(house), word, clock, pace_of(house)]
        if word == "clock":
            told.append(paper_of(house))
        return told

    def test_asked_again_the_same_is_told_whatever_was_asked_between(self):
        kept = copy.deepcopy(ALL)
        first = [copy.deepcopy(self.told(house)) for house in ALL]
        again = [self.told(house) for house in ALL[::-1]][::-1]
        self.assertEqual(again, first)
        for told in again:
            for part in told:
                if isinstance(part, dict):
                    part.clear()
                elif isinstance(part, tuple) and part[:1] == ("pace",):
                    part[2].clear()
        self.assertEqual([self.told(house) for house in ALL], first)
        self.assertEqual(ALL, kept)


if __name__ == "__main__":
    unittest.main()
