"""The machine of benches: a plan's works, beat by beat, and how many numbers lie on its shelf."""

from clockhouse.errors import Early
from clockhouse.houses import led, rule_of, steps_of
from clockhouse.rules import reads, worth


class Machine:
    """Has a house's rules, a wire for each step, and a shelf: a dict from (beat, bench, name) to numbers."""

    def __init__(self, house, wires):
        self.house = house
        self.wires = dict(zip(steps_of(house), wires))
        self.stays = {name: 0 for name, rule in house[2]}
        for name, other, shift, delay in wires:
            self.stays[other] = max(self.stays[other], delay)
        self.shelf = {}

    def fetch(self, work, step):
        """The number that a work reads by a step's wire; refused with Early where there is none."""
        beat, bench, name = work
        own, other, shift, delay = self.wires[step]
        key = (beat - delay, led(bench, shift), other)
        if key not in self.shelf:
            raise Early(work)
        return self.shelf[key]

    def reckon(self, work):
        """The worth of the rule of a work's desk."""
        name = work[2]
        rule = rule_of(self.house, name)
        numbers = [self.fetch(work, (name, other, row)) for other, row in reads(rule)]
        return worth(rule, numbers, self.house[1])

    def do_beat(self, beat, works, feeds):
        """A list of (beat, bench, name, number) for a beat's works. The feeds that are due are laid down ahead of them;
        behind them go the numbers that no wire reads any more."""
        for feed in feeds:
            self.shelf[feed[:3]] = feed[3]
        made = [work + (self.reckon(work),) for work in works]
        for one in made:
            self.shelf[one[:3]] = one[3]
        self.shelf = {key: number for key, number in self.shelf.items() if beat - key[0] < self.stays[key[2]]}
        return made


def beaten(house, plan):
    """(made, most): a sorted list of (beat, bench, name, number), and the greatest count of numbers that lay on the
    shelf behind a beat's works; refused with Early at the first work that finds no number."""
    works, wires, feeds = plan
    machine = Machine(house, wires)
    left = feeds
    made = []
    most = 0
    for beat in sorted({work[0] for work in works}):
        due = [feed for feed in left if feed[0] <= beat]
        left = [feed for feed in left if feed[0] > beat]
        made.extend(machine.do_beat(beat, [work for work in works if work[0] == beat], due))
        most = max(most, len(machine.shelf))
    return (sorted(made), most)
