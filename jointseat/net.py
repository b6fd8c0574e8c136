"""A net of all twelve houses, and the letters under way between them."""

from jointseat.errors import NoHouse, NoLetter
from jointseat.house import House
from jointseat.standings import MOST_HOUSES, plain_standing


class Net:
    """All houses, awake, with one first standing."""

    def __init__(self, first):
        self._first = plain_standing(first)
        self._houses = [House(number, first) for number in range(MOST_HOUSES)]
        # By number: from whom, to whom, and the letter; the least number always stands first.
        self._letters = {}
        self._next = 0

    def twin(self):
        """Make another net in which all is as in this one."""
        other = Net(self._first)
        other._houses = self._house_twins()
        other._letters = dict(self._letters)
        other._next = self._next
        return other

    def _house_twins(self):
        return [house.twin() for house in self._houses]

    def on_trial(self, deed):
        """Let a deed do what it will with this net, tell what it tells, and take all of it back."""
        houses = self._houses
        letters = self._letters
        following = self._next
        self._houses = self._house_twins()
        self._letters = dict(letters)
        try:
            return deed(self)
        finally:
            self._houses = houses
            self._letters = letters
            self._next = following

    def __len__(self):
        return len(self._letters)

    def _house(self, number):
        if type(number) is not int or number < 0 or number >= MOST_HOUSES:
            raise NoHouse("no such house")
        return self._houses[number]

    def _send(self, house, told):
        for to, letter in told:
            self._letters[self._next] = (house, to, letter)
            self._next += 1

    def beat(self, house):
        """Tell a house a beat."""
        self._send(house, self._house(house).beat())

    def deliver(self, number, *, keep=False):
        """Deliver a letter to its house; with keep it stays under way all the same."""
        _, to, letter = self._letter(number)
        if not keep:
            del self._letters[number]
        self._send(to, self._houses[to].take(letter))

    def lose(self, number):
        """Lose a letter."""
        self._letter(number)
        del self._letters[number]

    def _letter(self, number):
        if type(number) is not int or number not in self._letters:
            raise NoLetter("no such letter is under way")
        return self._letters[number]

    def stop(self, house):
        """Put a house to sleep."""
        self._house(house).stop()

    def wake(self, house):
        """Wake a house."""
        self._house(house).wake()

    def ask(self, house, value):
        """Ask a house a number; tell its place."""
        return self._house(house).ask(value)

    def change(self, house, edit):
        """Ask a house a change; tell how many wait there."""
        return self._house(house).change(edit)

    def read(self, house):
        """Ask a house a read; tell its number."""
        return self._house(house).read()

    def reads(self, house):
        """List the reads that a house answered."""
        return self._house(house).reads()

    def hand(self, house, to):
        """Let a house hand its lead over to another one."""
        self._house(house).hand(to)

    def letters(self):
        """List the letters under way by number: tuples of the number, from whom, and to whom."""
        return [(number, house, to) for number, (house, to, _) in self._letters.items()]

    def sight(self, house):
        """Tell what a house shows: its number, whether it is awake, leads, its term, log, and how much is settled."""
        shown = self._house(house)
        return house, shown.awake(), shown.leads(), shown.term(), shown.log(), shown.settled()

    def sets(self, house):
        """Tell the sets in effect by a house's log."""
        return self._house(house).sets()

    def waiting(self, house):
        """List the edits that wait at a house."""
        return self._house(house).waiting()

    def calm(self, rounds=1):
        """Do so many calm rounds: each house is told a beat, then all letters are delivered in their order."""
        for _ in range(rounds):
            for house in range(MOST_HOUSES):
                self.beat(house)
            self._deliver_all()

    def _deliver_all(self):
        # What is told meanwhile has greater numbers: it comes behind all that was under way.
        while len(self._letters) > 0:
            for number in list(self._letters):
                self.deliver(number)
