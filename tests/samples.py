"""Rules and houses for the tests, the same in every run, and plain second ways of reckoning them."""

SIGNS = ("+", "-", "*", "min", "max", "rest", "less")


def num(n):
    return ("num", n)


def at(name, *row):
    return ("at", name, row)


def op(sign, a, b):
    return ("op", sign, a, b)


def if_(c, a, b):
    return ("if", c, a, b)


def house_of(*desks, ways=1, wheel=10):
    return (ways, wheel, desks)


def sum_of(parts):
    """One rule of all the parts, from left to right."""
    rule = parts[0]
    for part in parts[1:]:
        rule = op("+", rule, part)
    return rule


def house_with(names, steps, ways=1, wheel=10):
    """A house of these desks whose steps are these, desk by desk; each number is the sum of what it reads, and 1."""
    def rule(name):
        return sum_of([num(1)] + [at(other, *row) for own, other, row in steps if own == name])
    return (ways, wheel, tuple([(name, rule(name)) for name in names]))


class Dice:
    """A row of numbers that looks like chance and is the same each time."""

    def __init__(self, seed):
        self.state = seed

    def below(self, bound):
        self.state = (self.state * 6364136223846793005 + 1442695040888963407) % 2**64
        return (self.state >> 33) % bound

    def one_of(self, things):
        return things[self.below(len(things))]


def some_rule(dice, names, ways, depth, most=2):
    """A rule of at most so many parts within one another, rows with numbers to most either way."""
    kind = dice.below(4) if depth > 1 else dice.below(2)
    if kind == 0:
        return num(dice.one_of((0, 1, dice.below(12), dice.below(10**9 + 1), 10**9)))
    if kind == 1:
        return at(dice.one_of(names), *[dice.below(2 * most + 1) - most for way in range(ways)])
    if kind == 2:
        sign = dice.one_of(SIGNS)
        return op(sign, *[some_rule(dice, names, ways, depth - 1, most) for part in range(2)])
    return if_(*[some_rule(dice, names, ways, depth - 1, most) for part in range(3)])


def some_house(dice, most=2):
    """A house whose steps may be too many."""
    ways = 1 + dice.below(3)
    wheel = dice.one_of((2, 3, 10, 997, 10**9))
    names = ("a", "bb", "maxi", "iffy", "zzzzzzzz", "les")[:1 + dice.below(6)]
    return (ways, wheel, tuple([(name, some_rule(dice, names, ways, 3, most)) for name in names]))


def good_house(dice, most=2):
    """A house that is let by."""
    while True:
        house = some_house(dice, most)
        if len(plain_steps(house)) <= 16:
            return house


def stepped_house(dice, most=2, names=("a", "bb", "c", "dd", "e", "f")):
    """A house of up to sixteen steps, drawn one by one, of one to three directions and one to six desks."""
    ways = 1 + dice.below(3)
    names = names[:1 + dice.below(len(names))]
    steps = []
    for turn in range(dice.below(17)):
        row = tuple([dice.below(2 * most + 1) - most for way in range(ways)])
        step = (dice.one_of(names), dice.one_of(names), row)
        if step not in steps and len([one for one in steps if one[0] == step[0]]) < 11:
            steps.append(step)
    return house_with(names, steps, ways, dice.one_of((2, 10, 10**9)))


def some_lot(dice, house, most=40):
    """Up to so many unlike cells of a house, near one another, in any order."""
    low = dice.one_of((0, -3, -1000, 990))
    cells = {}
    for turn in range(dice.below(most + 1)):
        place = tuple([low + dice.below(4 if house[0] > 1 else 10) for way in range(house[0])])
        cells[(dice.one_of(house[2])[0], place)] = True
    return list(cells)


def some_rim(dice, house, lot):
    """A rim that has some of the cells that a lot reads, some of the lot's own, and numbers beyond the wheel."""
    rim = {}
    for cell in lot:
        for other in [cell] + plain_waits(house, cell):
            if dice.below(2):
                rim[other] = dice.one_of((0, 1, house[1] - 1, house[1], house[1] + 1, dice.below(10**9), 10**9))
    return rim


def plain_reads(rule):
    """reads, by the words of the document."""
    if rule[0] == "num":
        return []
    if rule[0] == "at":
        return [rule[1:]]
    return [read for part in rule[1 if rule[0] == "if" else 2:] for read in plain_reads(part)]


def plain_worth(rule, numbers, wheel):
    """worth, by the words of the document; takes the numbers it reads out of the list."""
    if rule[0] == "num":
        return rule[1] - rule[1] // wheel * wheel
    if rule[0] == "at":
        return numbers.pop(0)
    if rule[0] == "if":
        c, a, b = [plain_worth(part, numbers, wheel) for part in rule[1:]]
        return b if c == 0 else a
    a, b = [plain_worth(part, numbers, wheel) for part in rule[2:]]
    return {
        "+": (a + b) - (a + b) // wheel * wheel,
        "-": a - b if a >= b else a - b + wheel,
        "*": (a * b) - (a * b) // wheel * wheel,
        "min": sorted([a, b])[0],
        "max": sorted([a, b])[1],
        "rest": 0 if b == 0 else a - a // b * b,
        "less": int(a < b),
    }[rule[1]]


def plain_text(house):
    """show_house, by the words of the document."""
    def word(rule):
        if rule[0] == "num":
            return str(rule[1])
        if rule[0] == "at":
            return rule[1] + "@" + ",".join(map(str, rule[2]))
        head, parts = ("if", rule[1:]) if rule[0] == "if" else (rule[1], rule[2:])
        return " ".join([head] + [word(part) for part in parts])
    return "\n".join(["house " + str(house[0]) + " " + str(house[1])]
                     + ["desk " + name + " " + word(rule) for name, rule in house[2]])


def plain_steps(house):
    """steps_of, by the words of the document."""
    return list(dict.fromkeys([(name,) + read for name, rule in house[2] for read in plain_reads(rule)]))


def plain_led(place, row):
    return tuple(map(sum, zip(place, row)))


def plain_waits(house, cell):
    """waits_for, by the words of the document."""
    name, place = cell
    return [(other, plain_led(place, row)) for own, other, row in plain_steps(house) if own == name]


def plain_cell_worth(house, lot, rim, numbers, cell):
    """The worth of a cell's rule, by the words of the document; numbers a dict of the lot's cells."""
    name, place = cell
    rule = dict(house[2])[name]
    cells = [(other, plain_led(place, row)) for other, row in plain_reads(rule)]
    read = [numbers[one] if one in lot else (rim[one] % house[1] if one in rim else 0) for one in cells]
    return plain_worth(rule, read, house[1])


def come_to(nexts, start):
    """All that is come to from start by one way or more, start only where a way leads back; nexts tells the next."""
    found, due = {}, list(nexts(start))
    while due:
        thing = due.pop(0)
        if thing not in found:
            found[thing] = True
            due.extend(nexts(thing))
    return found


def plain_needs(house, lot, cell):
    """What is come to from a cell by one waiting or more within the lot."""
    return come_to(lambda one: [other for other in plain_waits(house, one) if other in lot], cell)


def has_ring(house, lot):
    return any(cell in plain_needs(house, lot, cell) for cell in lot)
