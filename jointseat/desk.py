"""A desk: it is told rows of words, does what they say with a net, and answers by texts."""

from jointseat.net import Net
from jointseat.rows import edits_text, letters_text, log_text, read_row, sets_text, sight_text
from jointseat.standings import MOST_HOUSES, standing_of
from jointseat.watch import Watch

QUESTIONS = ("letters", "house", "log", "sets", "record", "waits", "leader")


class Desk:
    """A net, and a watch that is shown all its houses behind each deed."""

    def __init__(self):
        self._begin([[0, 1, 2], [], []])

    def _begin(self, parts):
        voters, witnesses, learners = parts
        first = standing_of(voters, witnesses=witnesses, learners=learners)
        self._net = Net(first)
        self._watch = Watch(first)

    def say(self, row):
        """Do or tell what a row says; tell the answer."""
        word, handed = read_row(row)
        if word == "begin":
            self._begin(handed[0])
            return "ok"
        if word in QUESTIONS:
            answer = self._told(word, handed)
            return "none" if answer == "" else answer
        answer = self._done(word, handed)
        self._watch.show(self._sights())
        return answer

    def _sights(self):
        return [self._net.sight(house) for house in range(MOST_HOUSES)]

    def _done(self, word, handed):
        """Do a deed; tell its answer."""
        if word == "ask":
            house, value = handed
            return str(self._net.ask(house, value))
        if word == "change":
            house, edit_word, other = handed
            return str(self._net.change(house, (edit_word, other)))
        self._do(word, handed[0])
        return "ok"

    def _do(self, word, number):
        """Do a deed of one number, of which nothing is told."""
        if word == "beat":
            self._net.beat(number)
        elif word == "stop":
            self._net.stop(number)
        elif word == "wake":
            self._net.wake(number)
        elif word == "deliver":
            self._net.deliver(number)
        elif word == "lose":
            self._net.lose(number)
        elif word == "twice":
            self._net.deliver(number, keep=True)
        else:
            self._net.calm(number)

    def _told(self, word, handed):
        """Tell the answer to a question, an empty text where there is nothing to tell."""
        if word == "letters":
            return letters_text(self._net.letters())
        if word == "record":
            return log_text(self._watch.settled())
        if word == "leader":
            return self._leader()
        house = handed[0]
        if word == "house":
            return sight_text(self._net.sight(house))
        if word == "log":
            return log_text(self._net.sight(house)[4])
        if word == "sets":
            return sets_text(self._net.sets(house))
        return edits_text(self._net.waiting(house))

    def _leader(self):
        """Tell which of the houses that lead leads in the greatest term."""
        leading = [(term, house) for house, _, leads, term, _, _ in self._sights() if leads]
        if len(leading) == 0:
            return ""
        return str(max(leading)[1])
