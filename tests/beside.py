"""A net and a watch that are told the same as a desk, and answer rows by the words of points 23 and 24."""

import re

from jointseat.errors import NoForm
from jointseat.net import Net
from jointseat.standings import standing_of
from jointseat.watch import Watch

from histories import HOUSES

NUMBER = r"(0|[1-9][0-9]{0,4})"
PART = r"(-|(?:0|[1-9][0-9]{0,4})(?:,(?:0|[1-9][0-9]{0,4}))*)"
FORMS = {
    "deed": rf"(beat|stop|wake|deliver|lose|twice|calm) {NUMBER}",
    "ask": rf"(ask) {NUMBER} (-?(?:0|[1-9][0-9]{{0,4}}))",
    "change": rf"(change) {NUMBER} (learner|voter|witness|leave) {NUMBER}",
    "question": rf"(house|log|sets|waits) {NUMBER}",
    "whole": r"(letters|record|leader)",
    "begin": rf"(begin) {PART}/{PART}/{PART}",
}
EVERY_QUESTION = ["letters", "record", "leader"] + [f"{word} {house}" for house in HOUSES
                                                    for word in ("house", "log", "sets", "waits")]


def slow_entry(entry):
    term, what = entry
    return f"{term}:" + {"none": "-", "kept": "?", "sets": "S"}.get(what[0], str(what[-1]))


def slow_standing(standing):
    return "/".join(",".join(map(str, part)) or "-" for part in standing)


class Beside:
    """Says what a desk has to."""

    def __init__(self):
        self.begin("0,1,2", "-", "-")

    def begin(self, *parts):
        voters, witnesses, learners = [[] if part == "-" else [int(house) for house in part.split(",")]
                                       for part in parts]
        first = standing_of(voters, witnesses=witnesses, learners=learners)
        self.net, self.watch = Net(first), Watch(first)
        return "ok"

    def say(self, row):
        for kind, form in FORMS.items():
            match = re.fullmatch(form, row)
            if match:
                return getattr(self, kind)(*match.groups()[0 if kind != "begin" else 1:])
        raise NoForm("no such row")

    def shown(self, answer):
        self.watch.show([self.net.sight(house) for house in HOUSES])
        return answer

    def deed(self, word, number):
        if word == "twice":
            self.net.deliver(int(number), keep=True)
        else:
            getattr(self.net, word)(int(number))
        return self.shown("ok")

    def ask(self, _, house, value):
        return self.shown(str(self.net.ask(int(house), int(value))))

    def change(self, _, house, word, other):
        return self.shown(str(self.net.change(int(house), (word, int(other)))))

    def question(self, word, house):
        house = int(house)
        _, awake, leads, term, log, settled = self.net.sight(house)
        if word == "house":
            return (f"{'awake' if awake else 'asleep'} {'leads' if leads else 'follows'} "
                    f"{term} {len(log)} {settled}")
        if word == "log":
            return " ".join(map(slow_entry, log)) or "none"
        if word == "sets":
            return "+".join(map(slow_standing, self.net.sets(house)))
        return "; ".join(f"{edit} {other}" for edit, other in self.net.waiting(house)) or "none"

    def whole(self, word):
        if word == "letters":
            return " ".join(f"{number} {one}>{to}" for number, one, to in self.net.letters()) or "none"
        if word == "record":
            return " ".join(map(slow_entry, self.watch.settled())) or "none"
        leading = [sight for sight in map(self.net.sight, HOUSES) if sight[2]]
        return str(max(leading, key=lambda sight: sight[3])[0]) if leading else "none"


def outcome(teller, row):
    """What is answered, or the class of the refusal."""
    try:
        return teller.say(row)
    except Exception as error:
        return type(error)


def all_told(teller):
    return [teller.say(row) for row in EVERY_QUESTION]
