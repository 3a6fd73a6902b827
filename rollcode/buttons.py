"""Buttons: presses of counts that only rise, by two cells that last."""

from rollcode.errors import Worn
from rollcode.presses import AGES, COUNTS, press_of


class Button:
    """A button of a house, that goes on where its cell was out."""

    def __init__(self, name, table, key, age, step):
        self.name = name
        self.table = tuple(table)
        self.key = tuple(key)
        self.age = age
        self.step = step
        self.next_count = 0
        self.bound = 0
        self.cells = [0, None]

    def press_once(self, deed):
        """The press of the next count, with that deed."""
        if self.is_worn():
            raise Worn("all counts are used up")
        if self.must_write():
            self.write_bound()
        press = press_of(self.table, self.key, self.name, self.age, self.next_count, deed)
        self.next_count += 1
        return press

    def is_worn(self):
        """Whether there is no count more."""
        return self.next_count >= COUNTS

    def must_write(self):
        """Whether the next press writes first."""
        return self.next_count == self.bound and not self.is_worn()

    def spare_cell(self):
        """The place of the cell that doesn't hold the bound."""
        # The bound stays in the other cell till this one is written:
        # however a write ends, one cell tells a bound that no count passed.
        if self.cells[0] == self.bound:
            return 1
        return 0

    def write_bound(self):
        """Sets the next bound, into the spare cell ahead of all."""
        spare = self.spare_cell()
        self.bound = min(self.bound + self.step, COUNTS)
        self.cells[spare] = self.bound

    def cell_out(self):
        """The cell goes out and comes back: only the lasting cells stay."""
        greatest = max([cell for cell in self.cells if cell is not None])
        self.next_count = greatest
        self.bound = greatest

    def cell_torn(self):
        """The cell goes out in the midst of a write, if one is due."""
        if self.must_write():
            self.cells[self.spare_cell()] = None
        self.cell_out()

    def turn_key(self, key):
        """The house's key is another one, of the next age."""
        if self.age >= AGES - 1:
            raise Worn("all ages are used up")
        self.key = tuple(key)
        self.age += 1

    def name_told(self):
        """The button's name."""
        return self.name

    def age_now(self):
        """The age of its key."""
        return self.age

    def count_now(self):
        """The count of the next press."""
        return self.next_count

    def cells_now(self):
        """The pair of the lasting cells."""
        return tuple(self.cells)
