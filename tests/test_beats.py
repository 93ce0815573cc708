"""clockhouse.beats: the machine that makes a plan's works beat by beat."""

import copy
import unittest

from clockhouse.beats import beaten
from clockhouse.benches import led_back, plan_of
from clockhouse.errors import Early
from clockhouse.lots import box
from clockhouse.needs import reckoned
from clockhouse.paces import bent, pace_of
from tests.samples import (
    Dice, at, house_of, house_with, if_, mixed, num, op, paced_house, plain_led, plain_reads, plain_reckoned, plain_steps,
    plain_worth, some_lot, some_rim, stirred,
)
from tests.test_benches import some_plan

MOST = 10**9
COUNT = house_of(("a", op("+", at("a", -1), num(1))))
SUMS = house_with("s", [("s", "s", (-1, 0)), ("s", "s", (0, -1))], 2)


def plain_beaten(house, plan):
    """(made, most), or the work that finds no number, by the words of the document."""
    works, wires, feeds = plan
    wire_of = dict(zip(plain_steps(house), wires))
    made, gone, counts = [], [], [0]

    def lying(beat):
        return [one for one in list(feeds) + made if one[0] <= beat and one not in gone]

    def found(work, read):
        name, other, shift, delay = wire_of[(work[2],) + read]
        key = (work[0] - delay, plain_led(work[1], shift), other)
        return [one[3] for one in lying(work[0]) if one[:3] == key]

    for beat in sorted({work[0] for work in works}):
        for work in [work for work in works if work[0] == beat]:
            rule = dict(house[2])[work[2]]
            numbers = [found(work, read) for read in plain_reads(rule)]
            if [] in numbers:
                return work
            made.append(work + (plain_worth(rule, [number[0] for number in numbers], house[1]),))
        for one in lying(beat):
            if beat - one[0] >= max([wire[3] for wire in wires if wire[1] == one[2]], default=0):
                gone.append(one)
        counts.append(len(lying(beat)))
    return (sorted(made), max(counts))


def row_plan(house, places, rim=(), delay=1):
    """A plan of a house of one direction and one desk a, a beat for each place."""
    return plan_of(house, [("a", (place,)) for place in places], dict(rim), (delay,), {"a": 0}, 0)


def with_delays(plan, delays):
    works, wires, feeds = plan
    return (works, tuple([wire[:3] + (delay,) for wire, delay in zip(wires, delays)]), feeds)


class Machines(unittest.TestCase):
    def assert_beaten(self, house, plan):
        """What is told, once it is seen to be as the document has it; None where a work is early."""
        plain = plain_beaten(house, plan)
        if len(plain) == 3:
            self.assert_early(plain, house, plan)
            return None
        told = beaten(house, plan)
        self.assertIsInstance(told, tuple)
        self.assertIsInstance(told[0], list)
        self.assertEqual(told, plain)
        return told

    def assert_early(self, work, house, plan):
        with self.assertRaises(Early) as caught:
            beaten(house, plan)
        self.assertEqual(caught.exception.cell, work)


class Made(Machines):
    def test_without_works(self):
        self.assertEqual(beaten(COUNT, ((), (("a", "a", (), 1),), ())), ([], 0))
        self.assertEqual(beaten(COUNT, ((), (("a", "a", (), 1),), ((3, (), "a", 4),))), ([], 0))

    def test_one_direction(self):
        plan = row_plan(COUNT, (1, 0, 2), {("a", (-1,)): 17})
        self.assertEqual(self.assert_beaten(COUNT, plan)[0], [(0, (), "a", 8), (1, (), "a", 9), (2, (), "a", 0)])

    def test_two_directions(self):
        lot = box(SUMS, (3, 3))
        for way in (0, 1):
            made, most = self.assert_beaten(SUMS, plan_of(SUMS, lot, {}, (1, 1), {"s": 0}, way))
            self.assertEqual([number for beat, bench, name, number in made if beat == 2], [3, 5, 3])
            self.assertEqual(led_back(made, (1, 1), {"s": 0}, way), dict(zip(lot, reckoned(SUMS, lot, {})[1])))

    def test_each_step_by_its_own_wire(self):
        house = house_of(("a", op("-", op("*", at("a", -2), num(3)), if_(at("a", -1), at("a", -3), at("a", -1)))), wheel=1000)
        rim = {("a", (-1,)): 5, ("a", (-2,)): 70, ("a", (-3,)): 2}
        made = self.assert_beaten(house, row_plan(house, (0, 1, 2), rim))[0]
        self.assertEqual([one[3] for one in made], [208, 945, 619])

    def test_numbers_that_are_0_are_numbers(self):
        self.assertEqual(self.assert_beaten(COUNT, row_plan(COUNT, (0, 1), {("a", (-1,)): 9}))[0],
                         [(0, (), "a", 0), (1, (), "a", 1)])

    def test_beats_below_0(self):
        plan = row_plan(COUNT, (-1000, -999), {("a", (-1001,)): 3})
        self.assertEqual(self.assert_beaten(COUNT, plan)[0], [(-1000, (), "a", 4), (-999, (), "a", 5)])

    def test_a_house_without_steps(self):
        house = house_of(("b", num(4)), ("a", num(15)))
        plan = plan_of(house, box(house, (2,)), {}, (-1,), {"a": 0, "b": 0}, 0)
        self.assertEqual(self.assert_beaten(house, plan), (
            [(-1, (), "a", 5), (-1, (), "b", 4), (0, (), "a", 5), (0, (), "b", 4)], 0))

    def test_beats_without_works_cost_nothing(self):
        house = house_with("ab", [("a", "b", (0, 0)), ("b", "b", (-1, 0))], 2)
        lot = [("a", (0, 0)), ("b", (0, 0)), ("a", (1000, 1000)), ("b", (1000, 1000)), ("b", (-1000, -1000))]
        plan = plan_of(house, lot, {}, (MOST, 7 * MOST), {"a": MOST, "b": 0}, 0)
        made, most = self.assert_beaten(house, plan)
        self.assertEqual(made[-1][0], 8001 * MOST)

    def test_three_hundred_works_in_a_row(self):
        made, most = beaten(COUNT, row_plan(COUNT, range(300), {}, MOST))
        self.assertEqual(made, [(k * MOST, (), "a", (k + 1) % 10) for k in range(300)])
        self.assertEqual(most, 1)


class Shelf(Machines):
    def most(self, house, plan):
        return self.assert_beaten(house, plan)[1]

    def test_a_number_that_is_read_once(self):
        self.assertEqual(self.most(COUNT, row_plan(COUNT, (0,))), 1)
        self.assertEqual(self.most(COUNT, row_plan(COUNT, (0, 1, 2, 3))), 1)

    def test_as_long_as_the_longest_delay(self):
        for far in (2, 3, 5):
            house = house_with("a", [("a", "a", (-1,)), ("a", "a", (-far,))])
            self.assertEqual(self.most(house, row_plan(house, range(20))), far)

    def test_where_no_wire_reads_a_desk(self):
        house = house_with("ab", [("a", "b", (-1,))])
        for places, most in (((0,), 0), ((0, 2, 4, 6), 0), ((0, 1, 2, 3), 1)):
            plan = plan_of(house, [("a", (place,)) for place in places], {}, (1,), {"a": 0, "b": 0}, 0)
            self.assertEqual(len(plan[2]), len(places))
            self.assertEqual(self.most(house, plan), most)

    def test_by_the_others_of_the_wires_alone(self):
        # b's own numbers are read by none; a's are read five beats later, by b.
        house = house_with("ab", [("b", "a", (-5,))])
        lot = [(name, (k,)) for name in "ab" for k in range(30)]
        self.assertEqual(self.most(house, plan_of(house, lot, {}, (1,), {"a": 0, "b": 0}, 0)), 5)

    def test_feeds_lie_there_from_their_beat_on(self):
        # a reads what is fed four beats ahead; the feeds for the later works come as their beats do.
        house = house_with("ab", [("a", "b", (-4,))])
        for places, most in (((0,), 0), ((0, 1), 1), ((0, 1, 2, 3, 4, 5, 6, 7), 4), ((0, 4, 8), 1), ((0, 3, 7), 1)):
            plan = plan_of(house, [("a", (place,)) for place in places], {}, (1,), {"a": 0, "b": 0}, 0)
            self.assertEqual(self.most(house, plan), most)

    def test_feeds_of_the_very_beat(self):
        house = house_with("ab", [("a", "b", (-2,)), ("a", "a", (-1,))])
        plan = plan_of(house, [("a", (k,)) for k in range(5)], {}, (1,), {"a": 0, "b": 0}, 0)
        self.assertEqual([feed[0] for feed in plan[2]], [-2, -1, -1, 0, 1, 2])
        self.assertEqual(self.most(house, plan), 3)

    def test_old_numbers_go_behind_the_next_works(self):
        lot = [("a", (0,)), ("a", (1,)), ("a", (900,))]
        self.assertEqual(self.most(COUNT, plan_of(COUNT, lot, {}, (1,), {"a": 0}, 0)), 1)
        house = house_with("ab", [("b", "a", (-3,))])
        lot = [("a", (k,)) for k in (0, 1, 2)] + [("a", (100,)), ("a", (101,))]
        self.assertEqual(self.most(house, plan_of(house, lot, {}, (1,), {"a": 0, "b": 0}, 0)), 3)

    def test_the_greatest_not_the_last(self):
        house = house_with("ab", [("b", "a", (-9,))])
        lot = [("a", (k,)) for k in range(6)] + [("a", (50,))]
        self.assertEqual(self.most(house, plan_of(house, lot, {}, (1,), {"a": 0, "b": 0}, 0)), 6)

    def test_by_the_plans_delays_not_the_houses(self):
        house = house_with("ab", [("b", "a", (-1,))])
        plan = plan_of(house, [("a", (k,)) for k in range(9)], {}, (1,), {"a": 0, "b": 0}, 0)
        for delay in (1, 2, 8, 9, 10, MOST):
            self.assertEqual(self.most(house, with_delays(plan, (delay,))), min(delay, 9))


class TooEarly(Machines):
    def test_a_feed_left_out(self):
        works, wires, feeds = row_plan(COUNT, (0, 1, 2, 5, 6))
        self.assertEqual(len(feeds), 2)
        self.assert_early((0, (), "a"), COUNT, (works, wires, feeds[1:]))
        self.assert_early((5, (), "a"), COUNT, (works, wires, feeds[:1]))
        self.assert_early((0, (), "a"), COUNT, (works, wires, ()))

    def test_a_work_left_out(self):
        works, wires, feeds = row_plan(COUNT, (0, 1, 2, 3))
        for k in range(3):
            self.assert_early(works[k + 1], COUNT, (works[:k] + works[k + 1:], wires, feeds))
        self.assertEqual(len(self.assert_beaten(COUNT, (works[:3], wires, feeds))[0]), 3)

    def test_other_delays(self):
        plan = row_plan(COUNT, (0, 1, 2, 3))
        for delay in (2, 3, MOST):
            self.assert_early((0, (), "a"), COUNT, with_delays(plan, (delay,)))
        fed = plan[:2] + (tuple([(beat, (), "a", 5) for beat in (-3, -2, -1)]),)
        self.assertEqual([one[3] for one in self.assert_beaten(COUNT, with_delays(fed, (3,)))[0]], [6, 6, 6, 7])

    def test_the_first_one_as_they_stand(self):
        works, wires, feeds = plan_of(SUMS, box(SUMS, (3, 3)), {}, (1, 1), {"s": 0}, 0)
        self.assert_early((0, (0,), "s"), SUMS, (works, wires, ()))
        for k in range(len(feeds)):
            due = [work for work in works for name, other, shift, delay in wires
                   if (work[0] - delay, plain_led(work[1], shift), other) == feeds[k][:3]]
            self.assert_early(due[0], SUMS, (works, wires, feeds[:k] + feeds[k + 1:]))
        last = [feed for feed in feeds if feed[0] < 1]
        self.assert_early((2, (0,), "s"), SUMS, (works, wires, tuple(last)))

    def test_a_work_of_its_own_beat_is_not_read(self):
        house = house_with("ab", [("a", "b", (0,))])
        plan = plan_of(house, box(house, (3,)), {}, (1,), {"a": 1, "b": 0}, 0)
        self.assertEqual(len(self.assert_beaten(house, plan)[0]), 6)
        self.assert_early((1, (), "a"), house, with_delays(plan, (2,)))

    def test_a_number_of_another_bench_or_desk_or_beat_does_not_serve(self):
        works, wires, feeds = plan_of(SUMS, [("s", (0, 0))], {}, (1, 1), {"s": 0}, 0)
        for k in (0, 1):
            beat, bench, name, number = feeds[k]
            for other in ((beat, (bench[0] + 1,), name, 1), (beat + 1, bench, name, 1), (beat - 1, bench, name, 1)):
                wrong = tuple(sorted(feeds[:k] + feeds[k + 1:] + (other,)))
                if len({feed[:3] for feed in wrong}) == 2:
                    self.assert_early((0, (0,), "s"), SUMS, (works, wires, wrong))


class Many(Machines):
    def test_as_the_run_by_need_tells(self):
        dice = Dice(121)
        seen = {}
        for turn in range(300):
            house, lot, rim, row, hours, way = some_plan(dice, dice.one_of((1, 2, 2, 999)), 25)
            plan = plan_of(house, lot, rim, row, hours, way)
            made, most = self.assert_beaten(house, plan)
            self.assertEqual(led_back(made, row, hours, way), plain_reckoned(house, lot, rim))
            self.assertEqual(dict(zip(lot, reckoned(house, lot, rim)[1])), led_back(made, row, hours, way))
            # No bench does two works of one desk in one beat.
            self.assertEqual(len(set([one[:3] for one in made])), len(lot))
            seen[(house[0], way, row[way] > 0)] = True
        self.assertEqual(len(seen), 12)

    def test_with_works_or_feeds_left_out_or_other_delays(self):
        dice = Dice(122)
        counts = {True: 0, False: 0}
        for turn in range(400):
            house, lot, rim, row, hours, way = some_plan(dice, 2, 20)
            works, wires, feeds = plan = plan_of(house, lot, rim, row, hours, way)
            kind = dice.below(4)
            if kind == 0:
                plan = (tuple([work for work in works if dice.below(12)]), wires, feeds)
            elif kind == 1:
                plan = (works, wires, tuple([feed for feed in feeds if dice.below(20)]))
            elif kind == 2:
                some = [wire[3] if dice.below(3) else 1 + dice.one_of((0, 1, 5, MOST - 1)) for wire in wires]
                plan = with_delays(plan, some)
            else:
                plan = (works[:len(works) // 2], with_delays(plan, [MOST] * len(wires))[1] if dice.below(2) else wires, feeds)
            counts[self.assert_beaten(house, plan) is None] += 1
        self.assertGreater(min(counts.values()), 80)

    def test_three_hundred_cells_and_sixteen_steps(self):
        rows = [(-k, j) for k in (1, 2) for j in range(-2, 3)] + [(0, -1)]
        house = mixed(Dice(123), house_with("ab", [("a", "a", row) for row in rows] + [("b", "a", (2, k)) for k in range(-2, 3)], 2))
        self.assertEqual(len(plain_steps(house)), 16)
        word, row, hours = pace_of(house)
        lot = stirred(Dice(124), box(house, (10, 15)))
        rim = {("a", (x, y)): x * x + 7 * y + 500 for x in range(-5, 20) for y in range(-5, 20)}
        for way in (0, 1):
            row, hours = bent(house, row, hours, way)
            made, most = beaten(house, plan_of(house, lot, rim, row, hours, way))
            self.assertEqual(led_back(made, row, hours, way), dict(zip(lot, reckoned(house, lot, rim)[1])))

    def test_wide_gaps_and_long_delays_do_not_slow_it(self):
        house = house_with("a", [("a", "a", (-1, k)) for k in range(-2, 3)], 2)
        lot = [("a", (3 * x - 1000, 7 * x)) for x in range(300)]
        plan = plan_of(house, lot, {}, (MOST, 1), {"a": 0}, 0)
        self.assertEqual(len(plan[2]), 1500)
        self.assertEqual([one[3] for one in beaten(house, plan)[0]], [1] * 300)


class Stays(unittest.TestCase):
    def test_what_is_handed_in_and_what_is_told(self):
        dice = Dice(125)
        for turn in range(80):
            house = mixed(dice, paced_house(dice))
            lot = some_lot(dice, house)
            word, row, hours = pace_of(house)
            row, hours = bent(house, row, hours, 0)
            plan = plan_of(house, lot, some_rim(dice, house, lot), row, hours, 0)
            kept = copy.deepcopy((house, plan))
            first = beaten(house, plan)
            told = copy.deepcopy(first)
            first[0].clear()
            if plan[2]:
                with self.assertRaises(Early):
                    beaten(house, plan[:2] + ((),))
            self.assertEqual((house, plan), kept)
            self.assertEqual(beaten(house, plan), told)


if __name__ == "__main__":
    unittest.main()
