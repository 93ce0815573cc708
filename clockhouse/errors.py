"""The refusals, each of which keeps what it was made of."""


def kept(thing):
    """A list as a copy, so that later changes of it don't reach the refusal; any other thing as it is."""
    return list(thing) if isinstance(thing, list) else thing


class HouseError(ValueError):
    """Any refusal."""

    def __init__(self):
        # Python would keep the very things handed in beside the fields, lists uncopied: so none is handed up.
        ValueError.__init__(self)


class NoHouse(HouseError):
    """What was handed in is no house, or two houses make none: word says what is amiss, name at which desk."""

    def __init__(self, word, name):
        HouseError.__init__(self)
        self.word = kept(word)
        self.name = kept(name)


class NoText(HouseError):
    """A text is no house's: row is the number of the first row that can't stand there."""

    def __init__(self, row):
        HouseError.__init__(self)
        self.row = kept(row)


class Loose(HouseError):
    """A bundle doesn't hang together."""

    def __init__(self):
        HouseError.__init__(self)


class TooLong(HouseError):
    """A ring would have too many steps: many says how many."""

    def __init__(self, many):
        HouseError.__init__(self)
        self.many = kept(many)


class Ring(HouseError):
    """Cells wait for one another in a ring."""

    def __init__(self, cells):
        HouseError.__init__(self)
        self.cells = kept(cells)


class Early(HouseError):
    """A cell, or a work, is due ahead of what it reads."""

    def __init__(self, cell):
        HouseError.__init__(self)
        self.cell = kept(cell)


class NoWay(HouseError):
    """A pace doesn't go along the direction asked for."""

    def __init__(self):
        HouseError.__init__(self)


class NoTurn(HouseError):
    """A table doesn't turn a house."""

    def __init__(self):
        HouseError.__init__(self)


class NoCell(HouseError):
    """A cell can't be changed."""

    def __init__(self, cell):
        HouseError.__init__(self)
        self.cell = kept(cell)


class NoRow(HouseError):
    """A row is none that a board is told."""

    def __init__(self):
        HouseError.__init__(self)


class NoName(HouseError):
    """Nothing is kept by a name."""

    def __init__(self, name):
        HouseError.__init__(self)
        self.name = kept(name)
