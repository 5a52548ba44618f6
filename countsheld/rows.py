"""The rows of one owner."""

from countsheld.counts import Counts
from countsheld.words import is_number


class Rows:
    """Rows with their kinds, ascending, and the number that the next one gets."""

    def __init__(self):
        # Numbers only ascend, so the dict has the rows in their order.
        self._kind_by_row = {}
        self._many_by_kind = {}
        self._upcoming = 0

    def copied(self):
        """Return new rows, equal to these."""
        made = Rows()
        made._kind_by_row = dict(self._kind_by_row)
        made._many_by_kind = dict(self._many_by_kind)
        made._upcoming = self._upcoming
        return made

    def has_row(self, row):
        """Tell whether any value is the number of one of these rows."""
        return is_number(row) and row in self._kind_by_row

    def kind_of(self, row):
        """Return the kind of a row that is there."""
        return self._kind_by_row[row]

    def is_of(self, row, kinds):
        """Tell whether any value is the number of a row of one of the kinds."""
        return self.has_row(row) and self._kind_by_row[row] in kinds

    def first_of(self, kind, passed):
        """Return the lowest row of the kind other than the passed one, or None."""
        for row, there in self._kind_by_row.items():
            if there == kind and row != passed:
                return row
        return None

    def rows_of(self, kind):
        """Return a list of the rows of the kind, ascending."""
        return [row for row, there in self._kind_by_row.items() if there == kind]

    def kinds_in_order(self):
        """Return a list of the kinds of all rows, in the order of the rows."""
        return list(self._kind_by_row.values())

    def how_many(self, kinds):
        """Return the number of rows of these kinds."""
        return sum([self._many_by_kind.get(kind, 0) for kind in kinds])

    def counts_of(self, kinds):
        """Return the counts of the rows of these kinds."""
        return Counts.of([(kind, self.how_many([kind])) for kind in kinds])

    def enter(self, kind):
        """Put in a new row; return its number."""
        row = self._upcoming
        self._upcoming = row + 1
        self._kind_by_row[row] = kind
        self._add_to(kind, 1)
        return row

    def turn(self, row, kind):
        """Give a row that is there another kind."""
        self._add_to(self._kind_by_row[row], -1)
        self._add_to(kind, 1)
        self._kind_by_row[row] = kind

    def strike(self, row):
        """Remove a row that is there."""
        self._add_to(self._kind_by_row[row], -1)
        del self._kind_by_row[row]

    def __len__(self):
        return len(self._kind_by_row)

    def _add_to(self, kind, more):
        self._many_by_kind[kind] = self._many_by_kind.get(kind, 0) + more
