"""A house: it keeps a log, votes, stands, and leads a term where a quorum wants it.

Its letters are tuples: a word, the number of the house that tells it, its term, and more.
"page" (from the one that leads: entries, how much is settled, and a pulse) is answered by "have" or "miss";
"seek" (who would vote for me?) by "grant"; "stand" (vote for me) by "vote"; "heir" (take the lead over) by nothing;
what comes from a lesser term by "late".
"""

from jointseat.book import Book
from jointseat.changes import changed, way
from jointseat.errors import NoChange, NoLead
from jointseat.lead import NOBODY, Lead
from jointseat.logs import quorum_reach
from jointseat.standings import MOST_HOUSES, is_quorum, members, plain_standing, seat_of, who_votes

# For so many beats behind a word of the house that leads nobody else is wished for.
TRUST = 8
# Behind so many beats without such a word, and as many more as its number, a house seeks the lead:
# no two ever wait equally long, so that in calm one of them comes first.
LEAST_WAIT = 9
# A house seeks the lead (it asks who would vote for it), then it stands for it in a term of its own.
RESTS = 0
SEEKS = 1
STANDS = 2
REQUESTS = ("page", "seek", "stand")


class House:
    """One of the twelve houses, over the first standing."""

    def __init__(self, number, first):
        self._number = number
        self._first = plain_standing(first)
        # What is durable: the term, for whom the house voted in it, and the log.
        self._term = 0
        self._vote = NOBODY
        self._book = Book(number, first)
        self._awake = True
        self._forget()

    def _forget(self):
        """Set all that isn't durable as it is in a house that has just begun or waked."""
        self._settled = 0
        self._idle = 0
        self._tries = 0
        self._rest()

    def _rest(self):
        """Set all that the house does for a lead aside."""
        self._guide = NOBODY
        self._stage = RESTS
        self._backers = []
        self._lead = None

    def twin(self):
        """Make another house in which all is as in this one."""
        other = House(self._number, self._first)
        other._term = self._term
        other._vote = self._vote
        other._book = self._book.twin()
        other._awake = self._awake
        other._settled = self._settled
        other._idle = self._idle
        other._tries = self._tries
        other._guide = self._guide
        other._stage = self._stage
        other._backers = list(self._backers)
        other._lead = None if self._lead is None else self._lead.twin()
        return other

    def awake(self):
        """Tell whether the house is awake."""
        return self._awake

    def leads(self):
        """Tell whether the house leads."""
        return self._lead is not None

    def term(self):
        """Tell the term of the house."""
        return self._term

    def settled(self):
        """Tell how many entries the house tells as settled."""
        return self._settled

    def log(self):
        """List the entries of the log."""
        return self._book.log()

    def sets(self):
        """Tell the sets in effect by the log."""
        return self._book.sets()

    def waiting(self):
        """List the edits that wait."""
        if self._lead is None:
            return []
        return list(self._lead.queue)

    def reads(self):
        """List the reads that are answered: tuples of their number and of how much was settled."""
        if self._lead is None:
            return []
        return list(self._lead.answers)

    def stop(self):
        """Put the house to sleep: only what is durable stays."""
        self._awake = False
        self._forget()

    def wake(self):
        """Wake the house with what is durable."""
        if not self._awake:
            self._awake = True
            self._forget()

    def ask(self, value):
        """Put a number behind the log; tell its place."""
        self._want_lead()
        place = self._put(("number", value))
        self._go_on()
        return place

    def change(self, edit):
        """Let an edit wait; tell how many wait then, ahead of any that begins."""
        lead = self._want_lead()
        standing = self._book.sets()[-1]
        for ahead in lead.queue:
            standing = changed(standing, ahead)
        changed(standing, edit)
        lead.queue.append(tuple(edit))
        many = len(lead.queue)
        self._go_on()
        return many

    def read(self):
        """Ask a read; tell its number."""
        number = self._want_lead().read()
        self._go_on()
        return number

    def hand(self, house):
        """Hand the lead over to another voter of the last standing, with the next beat."""
        lead = self._want_lead()
        voters = self._book.sets()[-1][0]
        if type(house) is not int or house == self._number or house not in voters:
            raise NoChange()
        lead.hand(house)

    def _want_lead(self):
        if self._lead is None:
            raise NoLead("the house doesn't lead")
        return self._lead

    def beat(self):
        """Tell the house a beat; list what it tells the others."""
        if not self._awake:
            return []
        if self._lead is not None:
            self._lead.beat()
            return self._pages(members(self._book.sets()))
        self._idle += 1
        if self._idle < LEAST_WAIT + self._number or not self._may_stand():
            return []
        return self._seek(0)

    def take(self, letter):
        """Tell the house a letter; list what it tells the others."""
        if not self._awake:
            return []
        word, other, term = letter[:3]
        if term > self._term:
            self._rise(term)
        if term < self._term:
            return self._take_late(word, other)
        if word == "page":
            return self._take_page(other, letter[3:])
        if word == "seek":
            return self._take_seek(other, letter[3:])
        if word == "stand":
            return self._take_stand(other, letter[3:])
        if word == "heir":
            return self._take_heir(letter[3:])
        if self._lead is not None:
            return self._take_answer(word, other, letter[3:])
        return self._take_backing(word, other)

    def _rise(self, term):
        """Follow others into a greater term."""
        self._term = term
        self._vote = NOBODY
        if self._lead is not None:
            self._idle = 0
        self._rest()

    def _may_stand(self):
        """Tell whether the house may lead by its log."""
        if seat_of(self._book.sets(), self._number) == "voter":
            return True
        # One that leads on behind its own leave may be the only one with the newest entries:
        # as long as they may not be settled, those that vote may not be able to win without it.
        ahead = self._book.sets_ahead()
        return self._settled < self._book.length() and seat_of(ahead, self._number) == "voter"

    def _seek(self, pressing):
        """Ask who would vote for the house; 1 for pressing, where the one that leads wishes it."""
        self._idle = 0
        self._guide = NOBODY
        self._stage = SEEKS
        self._backers = [self._number]
        if self._is_backed():
            return self._stand()
        houses = who_votes(self._book.sets())
        # Who votes may have changed without this house: then one of all may know who leads.
        if self._tries > 0 and pressing == 0:
            houses = list(range(MOST_HOUSES))
        self._tries += 1
        return self._told(houses, ("seek", self._number, self._term, *self._book.age(), pressing))

    def _stand(self):
        """Stand for the lead in a new term."""
        self._term += 1
        self._vote = self._number
        self._stage = STANDS
        self._backers = [self._number]
        if self._is_backed():
            return self._come_to_lead()
        letter = ("stand", self._number, self._term, *self._book.age())
        return self._told(who_votes(self._book.sets()), letter)

    def _is_backed(self):
        return is_quorum(self._book.sets(), self._backers)

    def _told(self, houses, letter):
        return [(house, letter) for house in houses if house != self._number]

    def _come_to_lead(self):
        self._rest()
        self._tries = 0
        self._lead = Lead(self._book.length())
        self._put(("none",))
        self._go_on()
        if self._lead is None:
            return []
        return self._pages(members(self._book.sets()))

    def _pages(self, houses):
        """Tell houses what may be missing in their logs, and that this one leads."""
        return [(house, self._page(house)) for house in houses if house != self._number]

    def _page(self, house):
        before = self._lead.base[house]
        head = ("page", self._number, self._term, before, self._book.term_at(before))
        return *head, self._book.since(before), self._settled, self._lead.pulse

    def _take_late(self, word, other):
        """Answer a letter of a lesser term."""
        if word in REQUESTS:
            return [(other, ("late", self._number, self._term))]
        return []

    def _take_page(self, other, told):
        before, before_term, entries, settled, pulse = told
        self._rest()
        self._guide = other
        self._idle = 0
        self._tries = 0
        head = (self._number, self._term)
        if before > self._book.length() or self._book.term_at(before) != before_term:
            return [(other, ("miss", *head, before, self._settled, pulse))]
        self._book.write(before, entries)
        upto = before + len(entries)
        self._settled = max(self._settled, min(settled, upto))
        return [(other, ("have", *head, upto, pulse))]

    def _take_seek(self, other, told):
        last_term, length, pressing = told
        if pressing == 0:
            if self._lead is not None:
                return self._pages([other])
            if self._guide != NOBODY and self._idle < TRUST:
                return []
        if (last_term, length) < self._book.age():
            return []
        return [(other, ("grant", self._number, self._term))]

    def _take_stand(self, other, told):
        last_term, length = told
        if self._vote not in (NOBODY, other) or (last_term, length) < self._book.age():
            return []
        self._vote = other
        self._idle = 0
        return [(other, ("vote", self._number, self._term))]

    def _take_heir(self, told):
        last_term, length = told
        if self._lead is not None or not self._may_stand() or self._book.age() < (last_term, length):
            return []
        return self._seek(1)

    def _take_backing(self, word, other):
        seeks = word == "grant" and self._stage == SEEKS
        stands = word == "vote" and self._stage == STANDS
        if (seeks or stands) and other not in self._backers:
            self._backers.append(other)
            if self._is_backed():
                return self._stand() if seeks else self._come_to_lead()
        return []

    def _take_answer(self, word, other, told):
        """Take in how a page was answered."""
        lead = self._lead
        if word == "have":
            news = lead.reach(other, told[0])
        elif word == "miss":
            news = lead.miss(other, told[0], told[1])
        else:
            return []
        lead.hear(other, told[-1])
        self._go_on()
        if self._lead is None:
            return []
        if other == lead.heir and self._is_ready(other):
            lead.heir = NOBODY
            return [(other, ("heir", self._number, self._term, *self._book.age()))]
        if news and lead.known[other] < self._book.length():
            return self._pages([other])
        return []

    def _is_ready(self, house):
        """Tell whether the lead can be handed over to a house, with nothing lost."""
        if len(self._book.sets()) == 2 or self._book.mark() > self._settled:
            return False
        return self._lead.known[house] == self._book.length()

    def _put(self, what):
        """Put an entry of this term behind the log; tell its place."""
        self._book.put((self._term, what))
        return self._book.length()

    def _go_on(self):
        """Settle what can be settled, and do all that is due of a house that leads then."""
        going = True
        while going:
            self._settle()
            # Reads go first: new sets may want houses that weren't told of the last beat.
            self._answer()
            going = self._puts_sets()
        if self._settled == self._book.length() and seat_of(self._book.sets(), self._number) != "voter":
            self._rest()
            self._idle = 0

    def _settle(self):
        length = self._book.length()
        if self._settled < length:
            known = self._lead.known
            places = [(house, known[house]) for house in range(MOST_HOUSES) if house != self._number]
            reached = self._book.reach(self._term, [*places, (self._number, length)])
            self._settled = max(self._settled, reached)

    def _puts_sets(self):
        """Put the sets that are due behind the log; tell whether some were."""
        sets = self._book.sets()
        if self._book.mark() > self._settled:
            return False
        if len(sets) == 2:
            self._put(("sets", sets[1:]))
            return True
        queue = self._lead.queue
        if len(queue) == 0 or seat_of(sets, self._number) != "voter":
            return False
        self._put(("sets", way(sets[0], changed(sets[0], queue.pop(0)))[0]))
        return True

    def _answer(self):
        """Answer the reads behind the asking of which a quorum held this house for the one that leads."""
        lead = self._lead
        # Only an entry of its term shows that nothing settled ahead is missing in what the house tells.
        if len(lead.due) == 0 or self._book.term_at(self._settled) != self._term:
            return
        pulses = [(house, lead.heard[house]) for house in range(MOST_HOUSES) if house != self._number]
        borne = quorum_reach(self._book.sets(), [*pulses, (self._number, lead.pulse + 1)])
        lead.answer(self._settled, borne)
