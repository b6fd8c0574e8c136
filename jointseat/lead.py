"""What a house holds only as long as it leads."""

from jointseat.standings import MOST_HOUSES

NOBODY = -1


class Lead:
    """How far the others are, the edits that wait, the reads, and to whom the lead is handed."""

    def __init__(self, length):
        # By house: up to where its log is known to be alike, and behind which place it is told entries.
        self.known = [0] * MOST_HOUSES
        self.base = [length] * MOST_HOUSES
        # A pulse is the number of a beat; by house the greatest one that came back.
        self.pulse = 0
        self.heard = [0] * MOST_HOUSES
        self.queue = []
        self.many_reads = 0
        self.due = []
        self.answers = []
        self.heir = NOBODY
        self.heir_pulse = 0

    def twin(self):
        """Make another one that holds the same."""
        other = Lead(0)
        other.known = list(self.known)
        other.base = list(self.base)
        other.pulse = self.pulse
        other.heard = list(self.heard)
        other.queue = list(self.queue)
        other.many_reads = self.many_reads
        other.due = list(self.due)
        other.answers = list(self.answers)
        other.heir = self.heir
        other.heir_pulse = self.heir_pulse
        return other

    def beat(self):
        """Count a beat; a lead that wasn't handed over by the beat ahead stays."""
        self.pulse += 1
        if self.pulse > self.heir_pulse:
            self.heir = NOBODY

    def hear(self, house, pulse):
        """Take in that a house held its own house for the one that leads, behind that pulse."""
        self.heard[house] = max(self.heard[house], pulse)

    def reach(self, house, place):
        """Take in that a house's log is alike up to a place; tell whether that is news."""
        news = place > self.known[house]
        self.known[house] = max(self.known[house], place)
        self.base[house] = self.known[house]
        return news

    def miss(self, house, before, settled):
        """Take in that a house's log isn't alike up to a place; tell whether that is news."""
        # What comes late speaks of a place behind which the house is told no entries any more.
        news = before == self.base[house] and self.known[house] <= settled < before
        if news:
            self.base[house] = settled
        return news

    def read(self):
        """Number a read; only a pulse behind the asking can bear it."""
        number = self.many_reads
        self.many_reads = number + 1
        self.due.append((number, self.pulse + 1))
        return number

    def answer(self, settled, pulse):
        """Answer the reads that are borne by a pulse."""
        self.answers.extend([(number, settled) for number, wanted in self.due if wanted <= pulse])
        self.due = [(number, wanted) for number, wanted in self.due if wanted > pulse]

    def hand(self, house):
        """Hand the lead over to a house with the next beat."""
        self.heir = house
        self.heir_pulse = self.pulse + 1
