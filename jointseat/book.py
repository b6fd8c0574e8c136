"""The log that a house keeps, with the sets in effect by it at hand."""

from jointseat.logs import kept_entry, plain_entry, settled_by
from jointseat.standings import lacks_room, plain_standing


class Book:
    """A log over a first standing; of numbers only that they are there, where its house lacks room."""

    def __init__(self, house, first):
        self._house = house
        self._first = plain_standing(first)
        self._rows = []
        # The places of the entries of sets, rising: so no look through the log is needed.
        self._marks = []

    def twin(self):
        """Make another book that holds the same."""
        other = Book(self._house, self._first)
        other._rows = list(self._rows)
        other._marks = list(self._marks)
        return other

    def log(self):
        """List the entries."""
        return list(self._rows)

    def since(self, place):
        """Tell the entries behind a place, a tuple."""
        return tuple(self._rows[place:])

    def length(self):
        """Tell how many entries there are."""
        return len(self._rows)

    def term_at(self, place):
        """Tell the term of the entry at a place, 0 ahead of the first one."""
        if place == 0:
            return 0
        return self._rows[place - 1][0]

    def age(self):
        """Tell the last term and the length: of two logs the newer one has the greater such pair."""
        return self.term_at(len(self._rows)), len(self._rows)

    def put(self, entry):
        """Put an entry behind all others."""
        row = kept_entry(entry) if lacks_room(self._house) else plain_entry(entry)
        self._rows.append(row)
        if row[1][0] == "sets":
            self._marks.append(len(self._rows))

    def write(self, before, entries):
        """Put entries behind a place; what is there of another term, and all behind it, gives way."""
        for place, entry in enumerate(entries, start=before + 1):
            if place <= len(self._rows) and self.term_at(place) != entry[0]:
                self._cut(place - 1)
            if place > len(self._rows):
                self.put(entry)

    def _cut(self, place):
        self._rows = self._rows[:place]
        self._marks = [mark for mark in self._marks if mark <= place]

    def mark(self):
        """Tell the place of the last entry of sets, 0 for none."""
        if len(self._marks) == 0:
            return 0
        return self._marks[-1]

    def sets(self):
        """Tell the sets in effect by the log."""
        return self._sets_of(self._marks)

    def sets_ahead(self):
        """Tell the sets that were in effect ahead of the last entry of sets."""
        return self._sets_of(self._marks[:-1])

    def _sets_of(self, marks):
        if len(marks) == 0:
            return (self._first,)
        return self._rows[marks[-1] - 1][1][1]

    def reach(self, term, places):
        """Tell how far a house that leads the term may tell as settled, by the places of all."""
        return settled_by(self._rows, self._first, term=term, places=places)
