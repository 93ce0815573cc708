"""Rules and houses for the tests, the same in every run, and plain second ways of reckoning them."""

SIGNS = ("+", "-", "*", "min", "max", "rest", "less")


def num(n):
    return ("num", n)


def at(name, *row):
    return ("at", name, row)


def op(sign, a, b):
    return ("op", sign, a, b)


def if_(c, a, b):
    return ("if", c, a, b)


def house_of(*desks, ways=1, wheel=10):
    return (ways, wheel, desks)


def sum_of(parts):
    """One rule of all the parts, from left to right."""
    rule = parts[0]
    for part in parts[1:]:
        rule = op("+", rule, part)
    return rule


def house_with(names, steps, ways=1, wheel=10):
    """A house of these desks whose steps are these, desk by desk; each number is the sum of what it reads, and 1."""
    def rule(name):
        return sum_of([num(1)] + [at(other, *row) for own, other, row in steps if own == name])
    return (ways, wheel, tuple([(name, rule(name)) for name in names]))


class Dice:
    """A row of numbers that looks like chance and is the same each time."""

    def __init__(self, seed):
        self.state = seed

    def below(self, bound):
        self.state = (self.state * 6364136223846793005 + 1442695040888963407) % 2**64
        return (self.state >> 33) % bound

    def one_of(self, things):
        return things[self.below(len(things))]


def some_rule(dice, names, ways, depth, most=2):
    """A rule of at most so many parts within one another, rows with numbers to most either way."""
    kind = dice.below(4) if depth > 1 else dice.below(2)
    if kind == 0:
        return num(dice.one_of((0, 1, dice.below(12), dice.below(10**9 + 1), 10**9)))
    if kind == 1:
        return at(dice.one_of(names), *[dice.below(2 * most + 1) - most for way in range(ways)])
    if kind == 2:
        sign = dice.one_of(SIGNS)
        return op(sign, *[some_rule(dice, names, ways, depth - 1, most) for part in range(2)])
    return if_(*[some_rule(dice, names, ways, depth - 1, most) for part in range(3)])


def some_house(dice, most=2):
    """A house whose steps may be too many."""
    ways = 1 + dice.below(3)
    wheel = dice.one_of((2, 3, 10, 997, 10**9))
    names = ("a", "bb", "maxi", "iffy", "zzzzzzzz", "les")[:1 + dice.below(6)]
    return (ways, wheel, tuple([(name, some_rule(dice, names, ways, 3, most)) for name in names]))


def good_house(dice, most=2):
    """A house that is let by."""
    while True:
        house = some_house(dice, most)
        if len(plain_steps(house)) <= 16:
            return house


def stepped_house(dice, most=2, names=("a", "bb", "c", "dd", "e", "f")):
    """A house of up to sixteen steps, drawn one by one, of one to three directions and one to six desks."""
    ways = 1 + dice.below(3)
    names = names[:1 + dice.below(len(names))]
    steps = []
    for turn in range(dice.below(17)):
        row = tuple([dice.below(2 * most + 1) - most for way in range(ways)])
        step = (dice.one_of(names), dice.one_of(names), row)
        if step not in steps and len([one for one in steps if one[0] == step[0]]) < 11:
            steps.append(step)
    return house_with(names, steps, ways, dice.one_of((2, 10, 10**9)))


def paced_house(dice, most=2):
    """A house that keeps one pace: a hand is drawn, then steps that gain by it."""
    ways = 1 + dice.below(3)
    names = stirred(dice, ("a", "bb", "c", "dd", "e", "f"))[:1 + dice.below(6)]
    hand = tuple([dice.below(5) - 2 for way in range(ways)])
    hours = {name: dice.below(7) - 3 for name in names}
    steps = []
    for turn in range(dice.below(41)):
        row = tuple([dice.below(2 * most + 1) - most for way in range(ways)])
        step = (dice.one_of(names), dice.one_of(names), row)
        few = len(steps) < 16 and len([one for one in steps if one[0] == step[0]]) < 11
        if few and step not in steps and plain_gain(hand, hours, step) >= 1:
            steps.append(step)
    return house_with(names, steps, ways, dice.one_of((2, 10, 997, 10**9)))


def mixed(dice, house):
    """A house of the same steps whose rules have signs of all kinds, and read some twice."""
    ways, wheel, desks = house
    return (ways, wheel, tuple([(name, mixed_rule(dice, plain_reads(rule))) for name, rule in desks]))


def mixed_rule(dice, reads):
    parts = [at(name, *row) for name, row in reads]
    parts.append(dice.one_of(parts) if parts and dice.below(2) else num(dice.below(1000)))
    if dice.below(2):
        parts.append(num(1 + dice.below(4)))
    while len(parts) > 1:
        k = dice.below(len(parts) - 1)
        if k + 3 <= len(parts) and not dice.below(3):
            parts[k:k + 3] = [if_(*parts[k:k + 3])]
        else:
            parts[k:k + 2] = [op(dice.one_of(SIGNS + ("+", "+", "-", "-")), *parts[k:k + 2])]
    return parts[0]


def wound_house(dice):
    """A house with a clock of two or three hands, whose rows were moved and turned; its desks stand in any order."""
    ways = dice.one_of((2, 3))
    names = stirred(dice, ("a", "bb", "c", "dd", "e", "f"))[:4 if ways == 3 else 2 + dice.below(3)]
    steps = wound_steps(names, ways)
    while True:
        offsets = {name: [dice.below(2) for way in range(ways)] for name in names}
        table = [[dice.below(3) - 1 for way in range(ways)] for way in range(ways)]
        led = [tuple([sum(map(int.__mul__, line, row)) + offsets[other][k] - offsets[name][k]
                      for k, line in enumerate(table)]) for name, other, row in steps]
        if determinant(table) in (1, -1) and all(-2 <= number <= 2 for row in led for number in row):
            turned = [(name, other, row) for (name, other, old), row in zip(steps, led)]
            return house_with(stirred(dice, names), turned, ways)


def crossed_house(dice):
    """A house like a wound one, with up to three steps more: it may have a ring, perhaps a hidden one."""
    ways, wheel, desks = house = wound_house(dice)
    names = [name for name, rule in desks]
    steps = plain_steps(house)
    for turn in range(1 + dice.below(3)):
        step = (dice.one_of(names), dice.one_of(names), tuple([dice.below(3) - 1 for way in range(ways)]))
        if step not in steps:
            steps.append(step)
    return house_with(names, steps, ways)


def wound_steps(names, ways):
    """Desks by twos, with own rows against one another, the twos linked; of four desks in three directions by threes."""
    def row(*numbers):
        return (numbers + (0, 0))[:ways]
    if ways == 3:
        a, b, c, d = names
        return [(a, a, (0, 0, 1)), (b, b, (0, 0, -1)), (a, b, (0, 1, 0)), (b, a, (0, 0, 0)),
                (c, c, (0, 0, 1)), (d, d, (0, 0, -1)), (c, d, (0, -1, 0)), (d, c, (0, 0, 0)),
                (a, c, (1, 0, 0)), (c, a, (0, 0, 0))]
    links = [(name, other, row(-1, 0)) for name, other in zip(names, names[1:])] + [(names[-1], names[0], row(0, 0))]
    return [(name, name, row(0, (-1) ** k)) for k, name in enumerate(names)] + links


def determinant(table):
    if len(table) == 1:
        return table[0][0]
    return sum([(-1) ** k * number * determinant([line[:k] + line[k + 1:] for line in table[1:]])
                for k, number in enumerate(table[0])])


def some_table(dice, ways):
    """A table by which houses can be turned, its numbers from -3 to 3."""
    while True:
        table = tuple([tuple([dice.below(7) - 3 for way in range(ways)]) for way in range(ways)])
        if determinant(table) in (1, -1):
            return table


def some_offsets(dice, house):
    return {name: tuple([dice.below(7) - 3 for way in range(house[0])]) for name, rule in house[2]}


def stirred(dice, things):
    things = list(things)
    return [things.pop(dice.below(len(things))) for thing in list(things)]


def some_lot(dice, house, most=40):
    """Up to so many unlike cells of a house, near one another, in any order."""
    low = dice.one_of((0, -3, -1000, 990))
    cells = {}
    for turn in range(dice.below(most + 1)):
        place = tuple([low + dice.below(4 if house[0] > 1 else 10) for way in range(house[0])])
        cells[(dice.one_of(house[2])[0], place)] = True
    return list(cells)


def some_rim(dice, house, lot):
    """A rim that has some of the cells that a lot reads, some of the lot's own, and numbers beyond the wheel."""
    rim = {}
    for cell in lot:
        for other in [cell] + plain_waits(house, cell):
            if dice.below(2):
                rim[other] = dice.one_of((0, 1, house[1] - 1, house[1], house[1] + 1, dice.below(10**9), 10**9))
    return rim


def plain_reads(rule):
    """reads, by the words of the document."""
    if rule[0] == "num":
        return []
    if rule[0] == "at":
        return [rule[1:]]
    return [read for part in rule[1 if rule[0] == "if" else 2:] for read in plain_reads(part)]


def plain_worth(rule, numbers, wheel):
    """worth, by the words of the document; takes the numbers it reads out of the list."""
    if rule[0] == "num":
        return rule[1] - rule[1] // wheel * wheel
    if rule[0] == "at":
        return numbers.pop(0)
    if rule[0] == "if":
        c, a, b = [plain_worth(part, numbers, wheel) for part in rule[1:]]
        return b if c == 0 else a
    a, b = [plain_worth(part, numbers, wheel) for part in rule[2:]]
    return {
        "+": (a + b) - (a + b) // wheel * wheel,
        "-": a - b if a >= b else a - b + wheel,
        "*": (a * b) - (a * b) // wheel * wheel,
        "min": sorted([a, b])[0],
        "max": sorted([a, b])[1],
        "rest": 0 if b == 0 else a - a // b * b,
        "less": int(a < b),
    }[rule[1]]


def plain_text(house):
    """show_house, by the words of the document."""
    def word(rule):
        if rule[0] == "num":
            return str(rule[1])
        if rule[0] == "at":
            return rule[1] + "@" + ",".join(map(str, rule[2]))
        head, parts = ("if", rule[1:]) if rule[0] == "if" else (rule[1], rule[2:])
        return " ".join([head] + [word(part) for part in parts])
    return "\n".join(["house " + str(house[0]) + " " + str(house[1])]
                     + ["desk " + name + " " + word(rule) for name, rule in house[2]])


def plain_steps(house):
    """steps_of, by the words of the document."""
    return list(dict.fromkeys([(name,) + read for name, rule in house[2] for read in plain_reads(rule)]))


def plain_led(place, row):
    return tuple(map(sum, zip(place, row)))


def plain_waits(house, cell):
    """waits_for, by the words of the document."""
    name, place = cell
    return [(other, plain_led(place, row)) for own, other, row in plain_steps(house) if own == name]


def plain_cell_worth(house, lot, rim, numbers, cell):
    """The worth of a cell's rule, by the words of the document; numbers a dict of the lot's cells."""
    name, place = cell
    rule = dict(house[2])[name]
    cells = [(other, plain_led(place, row)) for other, row in plain_reads(rule)]
    read = [numbers[one] if one in lot else (rim[one] % house[1] if one in rim else 0) for one in cells]
    return plain_worth(rule, read, house[1])


def come_to(nexts, start):
    """All that is come to from start by one way or more, start only where a way leads back; nexts tells the next."""
    found, due = {}, list(nexts(start))
    while due:
        thing = due.pop(0)
        if thing not in found:
            found[thing] = True
            due.extend(nexts(thing))
    return found


def plain_needs(house, lot, cell):
    """What is come to from a cell by one waiting or more within the lot."""
    return come_to(lambda one: [other for other in plain_waits(house, one) if other in lot], cell)


def has_ring(house, lot):
    return any(cell in plain_needs(house, lot, cell) for cell in lot)


def is_ring(house, lot, cells):
    """Whether cells are a ring of a lot, as the document tells it."""
    pairs = list(zip(cells, cells[1:] + cells[:1]))
    return isinstance(cells, list) and len(set(cells)) == len(cells) > 0 and all(
        cell in lot and other in plain_waits(house, cell) for cell, other in pairs)


def plain_reckoned(house, lot, rim):
    """The answer, a dict, of a lot without a ring: over and over, whatever is due."""
    numbers = {}
    while len(numbers) < len(lot):
        for cell in lot:
            inner = [other for other in plain_waits(house, cell) if other in lot]
            if cell not in numbers and all(other in numbers for other in inner):
                numbers[cell] = plain_cell_worth(house, lot, rim, numbers, cell)
    return numbers


def plain_knots(house, some):
    """knots_of, by the words of the document."""
    names = [name for name, rule in house[2]]
    steps = [plain_steps(house)[number] for number in some]
    far = {name: come_to(lambda own: [step[1] for step in steps if step[0] == own], name) for name in names}
    knots = sorted({tuple([b for b in names if a == b or b in far[a] and a in far[b]]) for a in names},
                   key=lambda knot: names.index(knot[0]))
    told = []
    while len(told) < len(knots):
        ahead = [name for knot in told for name in knot]
        for knot in knots:
            others = [step[1] for step in steps if step[0] in knot]
            if knot not in told and all(other in knot or other in ahead for other in others):
                told.append(knot)
                break
    return tuple(told)


def plain_is_bundle(house, amounts):
    """is_bundle, by the words of the document."""
    steps = plain_steps(house)
    if min(amounts, default=0) < 0 or max(amounts, default=0) <= 0:
        return False
    for desk, rule in house[2]:
        out = sum([amount for amount, step in zip(amounts, steps) if step[0] == desk])
        into = sum([amount for amount, step in zip(amounts, steps) if step[1] == desk])
        if out != into:
            return False
    rows = [[amount * number for number in step[2]] for amount, step in zip(amounts, steps)]
    return [sum(numbers) for numbers in zip(*rows)] == [0] * house[0]


def plain_hangs(house, amounts):
    """hangs_together, by the words of the document."""
    steps = [step for amount, step in zip(amounts, plain_steps(house)) if amount > 0]
    desks = {desk for step in steps for desk in step[:2]}
    return all(set(come_to(lambda own: [step[1] for step in steps if step[0] == own], desk)) == desks for desk in desks)


def hand_time(row, hours, cell):
    """A cell's time by a hand."""
    return sum([a * b for a, b in zip(row, cell[1])]) + hours[cell[0]]


def plain_gain(row, hours, step):
    """A step's gain by a hand, seen at the place of noughts."""
    name, other, away = step
    return hand_time(row, hours, (name, (0,) * len(row))) - hand_time(row, hours, (other, away))


def plain_time(clock, cell):
    """time_of, by the words of the document."""
    knot, hands = clock[cell[0]]
    return (knot,) + tuple([hand_time(row, {cell[0]: hour}, cell) for row, hour in hands])


def telling_places(ways):
    """Places by which a step is seen to be kept at every place: two times whose rows are unlike cross far off."""
    far = 10**15
    return [(0,) * ways] + [(0,) * k + (sign * far,) + (0,) * (ways - k - 1) for k in range(ways) for sign in (1, -1)]


def plain_kept(house, clock, step):
    """Whether a clock keeps a step, by its times."""
    name, other, row = step
    return all(plain_time(clock, (name, place)) > plain_time(clock, (other, plain_led(place, row)))
               for place in telling_places(house[0]))


def some_clock(dice, house):
    """Any clock, its rows, hours and knots often alike."""
    hands = dice.below(7)
    most = dice.one_of((1, 1, 2, 10**9))

    def number():
        return dice.below(2 * most + 1) - most
    rows = [tuple([number() for way in range(house[0])]) for hand in range(hands)]
    clock = {}
    for name, rule in house[2]:
        knot = dice.one_of((0, 0, 0, number()))
        own = [row if dice.below(6) else tuple([number() for way in row]) for row in rows]
        clock[name] = (knot, tuple([(row, dice.one_of((0, number()))) for row in own]))
    return clock


def other_clock(dice, clock):
    """A clock that keeps each step that a clock keeps: knots farther apart, hands stretched, more hands behind."""
    apart, more = 1 + dice.below(4), dice.below(5) - 2
    stretched = {knot: 1 + dice.below(5) for knot, hands in clock.values()}
    behind = dice.below(4)
    told = {}
    for name, (knot, hands) in clock.items():
        many = stretched[knot]
        own = [(tuple([many * number for number in row]), many * hour + more) for row, hour in hands]
        ways = len(hands[0][0]) if hands else 0
        for hand in range(behind if hands else 0):
            own.append((tuple([dice.below(7) - 3 for way in range(ways)]), dice.below(7) - 3))
        told[name] = (apart * knot + more, tuple(own))
    return told


def plain_paper_holds(house, paper):
    """paper_holds, by the words of the document."""
    steps = plain_steps(house)
    around = list(range(len(steps)))
    for amounts in paper:
        some = [number for number, amount in enumerate(amounts) if amount > 0]
        links = [steps[number] for number in around]
        if not plain_is_bundle(house, amounts) or not set(some) <= set(around):
            return False
        desks = {desk for number in some for desk in steps[number][:2]}
        for desk in desks:
            far = come_to(lambda own: [link[1] for link in links if link[0] == own], desk)
            if not desks <= set(far) | {desk}:
                return False
        around = some
    return True
