"""Halls: lots that are kept while numbers at their rims are changed."""

from clockhouse.errors import NoCell
from clockhouse.lots import cell_worth
from clockhouse.needs import come_to, outer_readers, readers_of, waits_and_order


class Hall:
    """A house, a lot and a rim of its own; done is how many cells were reckoned by all changes."""

    def __init__(self, house, lot, rim):
        waits, order = waits_and_order(house, lot)
        self.house = house
        self.lot = list(lot)
        self.rim = dict(rim)
        self.order = order
        self.inner = readers_of(waits)
        self.outer = outer_readers(house, lot)
        self.known = {}
        self.done = 0
        self.reckon_all(order)

    def reckon_all(self, cells):
        """Reckon cells anew, each of which stands behind those of them that it waits for."""
        for cell in cells:
            self.known[cell] = cell_worth(self.house, self.rim, self.known, cell)

    def numbers(self):
        """A list of the numbers in the lot's order."""
        return [self.known[cell] for cell in self.lot]

    def change(self, cell, number):
        """Give a cell outside the lot a number at the rim: a list of the lot's cells whose numbers became others;
        refused with NoCell of a cell of the lot."""
        if cell in self.inner:
            raise NoCell(cell)
        self.rim[cell] = number
        touched = come_to(self.outer.get(cell, []), self.inner)
        ahead = {one: self.known[one] for one in touched}
        self.reckon_all([one for one in self.order if one in touched])
        self.done += len(touched)
        return [one for one in self.lot if one in touched and self.known[one] != ahead[one]]
