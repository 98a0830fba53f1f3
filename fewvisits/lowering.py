"""The numbers of a right spread, lowered one by one as far as it stays right."""

from fewvisits.besides import beside_table
from fewvisits.parting import lengths_apart, moves_by
from fewvisits.unnoticed import steps_of


class Numbers:
    """The visits and the notes of the operations of a right spread, as they are lowered."""

    def __init__(self, spread):
        self.kind = spread.kind
        self.sites = spread.sites
        self.visits = {row[:2]: row[2] for row in spread.rows}
        self.notes = {row[:2]: row[3] for row in spread.rows}
        self.jarring = {operation: [] for operation in self.visits}
        for one, other in beside_table(spread.kind):
            self.jarring[one].append(other)
        self._lengths = {}

    def spread_rows(self):
        """The rows of the spread with these numbers."""
        return [operation + (self.visits[operation], self.notes[operation]) for operation in self.visits]

    def able_apart(self, up):
        """What lengths_apart tells of the operations with at most so many visits."""
        by = tuple([operation for operation in self.visits if self.visits[operation] <= up])
        if by not in self._lengths:
            moves = moves_by(self.kind, {operation: True for operation in by})
            self._lengths[by] = lengths_apart(self.kind, moves)
        return self._lengths[by]

    def are_unnoticed(self, up):
        """Whether each operation whose notes and up are the sites is unnoticed by those that may miss it."""
        noted = [operation for operation in self.notes if self.notes[operation] + up == self.sites]
        if not noted:
            return True
        lengths = self.able_apart(up)
        return not any([step in lengths for operation in noted for step in steps_of(self.kind, operation)])

    def meets_all(self, operation):
        """Whether an operation meets all those that do not go beside it."""
        return all([self.visits[operation] + self.visits[other] > self.sites for other in self.jarring[operation]])

    def lower_visits(self, operation):
        """Lowers the visits of an operation by one, if that is possible and the spread stays right; whether it did."""
        visits = self.visits[operation] - 1
        if visits < max(1, self.notes[operation]):
            return False
        self.visits[operation] = visits
        # Just those operations may be missed anew whose notes and these visits are the sites.
        if self.meets_all(operation) and self.are_unnoticed(visits):
            return True
        self.visits[operation] = visits + 1
        return False

    def lower_notes(self, operation):
        """Lowers the notes of an operation by one, if that is possible and the spread stays right; whether it did."""
        if self.notes[operation] == 0:
            return False
        notes = self.notes[operation] - 1
        lengths = self.able_apart(self.sites - notes)
        if any([step in lengths for step in steps_of(self.kind, operation)]):
            return False
        self.notes[operation] = notes
        return True
