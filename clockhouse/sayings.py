"""Sayings about unknown numbers: whether all can hold, one of them by far, and if not, why.

A saying is a tuple of factors, one for each unknown number. Its worth is the sum of the numbers times the factors; it
holds where its worth is from 0 on.
"""


class Table:
    """Which things hang on which, written in whole numbers.

    A thing is an unknown number, called -1, -2 and so on, or the worth of a saying, called by the saying's place from
    0 on; called goal is a second writing of the worth that is to be from 1 on. The thing of a row is, so many times as
    whole tells, the sum of the columns' things times the row's numbers.
    """

    def __init__(self, sayings, number):
        self.whole = 1
        self.goal = len(sayings)
        self.columns = [-1 - at for at in range(len(sayings[number]))]
        self.rows = {at: list(saying) for at, saying in enumerate(sayings)}
        self.rows[self.goal] = list(sayings[number])

    def exchange(self, label, at):
        """Give a row's thing the column's place, and the column's thing a row; whole stays above 0."""
        key = self.rows[label]
        sign = 1 if key[at] > 0 else -1
        rows = {other: self.swept(row, key, at, sign) for other, row in self.rows.items() if other != label}
        own = [-sign * number for number in key]
        own[at] = sign * self.whole
        rows[self.columns[at]] = own
        self.rows = rows
        self.columns[at] = label
        self.whole = sign * key[at]

    def swept(self, row, key, at, sign):
        """A row written by the columns' things as they are behind an exchange by the row key."""
        # Each number here is a determinant of the sayings' factors, so the division leaves no rest.
        numbers = [sign * ((a * key[at] - row[at] * b) // self.whole) for a, b in zip(row, key)]
        numbers[at] = sign * row[at]
        return numbers

    def saying_rows(self):
        """The sayings that stand in rows, the first ahead."""
        return [label for label in sorted(self.rows) if 0 <= label < self.goal]


def written_by_sayings(table):
    """Bring sayings into the columns in the unknowns' places, as far as their worths hang on the unknowns."""
    for at in range(len(table.columns)):
        labels = [label for label in table.saying_rows() if table.rows[label][at] != 0]
        if labels:
            table.exchange(labels[0], at)


def raising_column(table):
    """The place of the column of the first saying whose worth, being more, makes the goal more; None without one."""
    # Unknowns that still stand in columns have 0 there: no worth hangs on them.
    labels = sorted([label for label, number in zip(table.columns, table.rows[table.goal]) if number > 0])
    return table.columns.index(labels[0]) if labels else None


def falling_saying(table, at):
    """The first saying in a row whose worth becomes less as the column's does more; None without one."""
    labels = [label for label in table.saying_rows() if table.rows[label][at] < 0]
    return labels[0] if labels else None


def common_part(numbers):
    """The greatest number that divides all the numbers; 0 where all are 0."""
    part = 0
    for number in numbers:
        left = abs(number)
        while left:
            part, left = left, part % left
    return part


def lessened(numbers):
    """The numbers divided by what they have in common; one at least is other than 0."""
    part = common_part(numbers)
    return [number // part for number in numbers]


def amounts_by(table, number):
    """How often each saying is taken so that all factors come to nought, the asked one with them."""
    amounts = [0] * table.goal
    for label, part in zip(table.columns, table.rows[table.goal]):
        if label >= 0:
            amounts[label] -= part
    amounts[number] += table.whole
    return lessened(amounts)


def numbers_by(table, at):
    """The unknown numbers where the column's thing is whole and those of all other columns are 0."""
    labels = [-1 - place for place in range(len(table.columns))]
    return lessened([table.rows[label][at] if label in table.rows else 0 for label in labels])


def weighed(sayings, number):
    """Of sayings and the place of one: ("numbers", numbers), by which all hold and this one's worth is from 1 on; or
    ("amounts", amounts), from 0 on and above 0 at this one, such that the factors, so many times each, come to nought.
    """
    table = Table(sayings, number)
    written_by_sayings(table)
    # Both choices take the first saying there is: so no set of columns comes again, and the loop ends (Bland's rule).
    while True:
        at = raising_column(table)
        if at is None:
            return ("amounts", amounts_by(table, number))
        label = falling_saying(table, at)
        if label is None:
            return ("numbers", numbers_by(table, at))
        table.exchange(label, at)
