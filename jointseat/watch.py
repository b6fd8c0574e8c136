"""A watch: it is shown what is told of houses, and tells the first breach of what a history promises."""

from jointseat.logs import are_alike, plain_agree, plain_alike_up_to, plain_entry
from jointseat.standings import is_quorum, missed, plain_standing, seat_of

# The parts of a sight.
HOUSE = 0
AWAKE = 1
LEADS = 2
TERM = 3
LOG = 4
SETTLED = 5


class Watch:
    """Judges the sights that it is shown, over the first standing of their houses."""

    def __init__(self, first):
        self._first = plain_standing(first)
        # All lists of sights, as they were shown.
        self._shown = []
        # By house its last sight, by term the houses that were shown as leading, and what was shown as settled.
        self._last = {}
        self._leaders = {}
        self._settled = []
        # Only to be quick and small: each entry once, and of pairs of sets whether they meet.
        self._entries = {}
        self._meetings = {}

    def twin(self):
        """Make another watch in which all is as in this one."""
        other = Watch(self._first)
        other._shown = list(self._shown)
        other._last = dict(self._last)
        other._leaders = {term: list(self._leaders[term]) for term in self._leaders}
        other._settled = list(self._settled)
        return other

    def __eq__(self, other):
        return isinstance(other, Watch) and self._first == other._first and self._shown == other._shown

    def settled(self):
        """List the entries that were shown as settled, place by place."""
        return list(self._settled)

    def show(self, sights):
        """Show sights of one moment; tell the first breach, None where there is none."""
        shown = [self._plain_sight(sight) for sight in sights]
        self._shown.append(shown)
        rows = sorted(shown, key=lambda row: row[0])
        self._see_leaders(rows)
        turned = self._see_settled(rows)
        breach = (self._two_lead() or self._parted(rows) or turned or self._fallen(rows)
                  or self._no_quorum(rows) or self._no_seat(rows) or self._missed(rows))
        for row in rows:
            self._last[row[HOUSE]] = row
        return breach

    def _plain_sight(self, sight):
        house, awake, leads, term, log, settled = sight
        entries = [plain_entry(entry) for entry in log]
        return house, awake, leads, term, tuple([self._entries.setdefault(one, one) for one in entries]), settled

    def _see_leaders(self, rows):
        for row in rows:
            houses = self._leaders.get(row[TERM], [])
            if row[LEADS] and row[HOUSE] not in houses:
                self._leaders[row[TERM]] = sorted([*houses, row[HOUSE]])

    def _see_settled(self, rows):
        """Take in what is shown as settled; tell the first entry that turned."""
        breach = None
        for row in rows:
            for ahead, entry in enumerate(row[LOG][:row[SETTLED]]):
                if not self._see_entry(ahead, entry) and breach is None:
                    breach = ("turned", row[HOUSE], ahead + 1)
        return breach

    def _see_entry(self, ahead, entry):
        """Take in an entry that is shown as settled behind so many others; tell whether it hasn't turned."""
        if ahead == len(self._settled):
            self._settled.append(entry)
        known = self._settled[ahead]
        if not are_alike(known, entry):
            return False
        if known[1][0] == "kept":
            self._settled[ahead] = entry
        return True

    def _two_lead(self):
        for term in sorted(self._leaders):
            houses = self._leaders[term]
            if len(houses) > 1:
                return "two lead", term, houses[0], houses[1]
        return None

    def _parted(self, rows):
        for place, one in enumerate(rows):
            for other in rows[place + 1:]:
                if not plain_agree(one[LOG], other[LOG]):
                    return "parted", one[HOUSE], other[HOUSE]
        return None

    def _fallen(self, rows):
        for row in rows:
            last = self._last.get(row[HOUSE])
            if last is not None and last[AWAKE] and row[AWAKE] and row[SETTLED] < last[SETTLED]:
                return "fallen", row[HOUSE]
        return None

    def _no_quorum(self, rows):
        for row in rows:
            if self._leads_further(row) and not self._has_quorum(row, rows):
                return "no quorum", row[HOUSE], row[SETTLED]
        return None

    def _leads_further(self, row):
        """Tell whether a house leads on, and tells more settled than in its last sight."""
        last = self._last.get(row[HOUSE])
        if last is None or not last[LEADS] or not row[LEADS]:
            return False
        return last[TERM] == row[TERM] and last[SETTLED] < row[SETTLED]

    def _has_quorum(self, row, rows):
        """Tell whether houses with all that a house tells as settled are a quorum of sets that were in effect then."""
        log = row[LOG]
        upto = row[SETTLED]
        group = [other[HOUSE] for other in rows if plain_alike_up_to(log, other[LOG]) >= upto]
        # A quorum was there when the log went up to some place from here on.
        row_of_sets = self._sets_row(log)
        ahead = [sets for place, sets in row_of_sets if place <= upto]
        behind = [sets for place, sets in row_of_sets if place > upto]
        return any([is_quorum(sets, group) for sets in [ahead[-1], *behind]])

    def _sets_row(self, log):
        """List the places of a log's entries of sets, with these; ahead of them the first standing's."""
        found = [(place, what[1]) for place, (_, what) in enumerate(log, start=1) if what[0] == "sets"]
        return [(0, (self._first,)), *found]

    def _no_seat(self, rows):
        for row in rows:
            if row[LEADS]:
                seats = [seat_of(sets, row[HOUSE]) for _, sets in self._sets_row(row[LOG])[-2:]]
                if "voter" not in seats:
                    return "no seat", row[HOUSE]
        return None

    def _missed(self, rows):
        for row in rows:
            row_of_sets = self._sets_row(row[LOG])
            for (_, ahead), (place, sets) in zip(row_of_sets, row_of_sets[1:]):
                if not self._meet(ahead, sets):
                    return "missed", row[HOUSE], place
        return None

    def _meet(self, one, other):
        pair = (one, other)
        if pair not in self._meetings:
            self._meetings[pair] = missed(one, other) is None
        return self._meetings[pair]
