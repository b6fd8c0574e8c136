"""A slow watch, that goes by the words of point 21 alone, and sights drawn by chance for both watches."""

from support import (as_tuples, slow_agree, slow_alike, slow_alike_up_to, slow_is_quorum, slow_missed, slow_sets_by)

MISSES = {}


def slow_meet(one, other):
    if (one, other) not in MISSES:
        MISSES[one, other] = slow_missed(one, other)
    return MISSES[one, other] is None


def seat_in(sets, house):
    """Whether a house is a voter of sets."""
    return any(house in standing[0] for standing in sets)


def row_of_sets(log, first):
    """The places of the entries of sets with these, and with the sets in effect ahead of each."""
    places = [place for place, (_, what) in enumerate(log, 1) if what[0] == "sets"]
    return [(place, log[place - 1][1][1], slow_sets_by(log[:place - 1], first)) for place in places]


class SlowWatch:
    """Keeps all lists, and goes over all of them at each one."""

    def __init__(self, first):
        self.first = first
        self.lists = []

    def show(self, sights):
        self.lists.append(sorted(as_tuples(sights), key=lambda sight: sight[0]))
        for word, find in [("two lead", self.two_lead), ("parted", self.parted), ("turned", self.turned),
                           ("fallen", self.fallen), ("no quorum", self.no_quorum), ("no seat", self.no_seat),
                           ("missed", self.missed)]:
            found = sorted(find(self.lists[-1]))
            if found:
                return (word, *found[0])
        return None

    def settled(self):
        return self.all_settled()[0]

    def two_lead(self, _):
        led = {(sight[3], sight[0]) for sights in self.lists for sight in sights if sight[2]}
        return [(term, one, other) for term, one in led for again, other in led if again == term and one < other]

    def parted(self, sights):
        return [(one[0], other[0]) for one in sights for other in sights
                if one[0] < other[0] and not slow_agree(one[4], other[4])]

    def turned(self, _):
        return [(house, place) for moment, house, place in self.all_settled()[1] if moment == len(self.lists) - 1]

    def all_settled(self):
        """What was shown as settled first, and all that turned: moments, houses, places."""
        held, turned = [], []
        for moment, sights in enumerate(self.lists):
            for house, _, _, _, log, settled in sights:
                for place in range(1, settled + 1):
                    entry = log[place - 1]
                    if place > len(held):
                        held.append(entry)
                    elif not slow_alike(held[place - 1], entry):
                        turned.append((moment, house, place))
                    elif held[place - 1][1] == ("kept",) and entry[1][0] == "number":
                        held[place - 1] = entry
        return held, turned

    def last_of(self, house):
        """The last sight of a house ahead of the last list."""
        found = [sight for sights in self.lists[:-1] for sight in sights if sight[0] == house]
        return found[-1] if found else None

    def fallen(self, sights):
        return [(sight[0],) for sight in sights
                if sight[1] and self.last_of(sight[0]) and self.last_of(sight[0])[1]
                and sight[5] < self.last_of(sight[0])[5]]

    def no_quorum(self, sights):
        found = []
        for house, _, leads, term, log, settled in sights:
            last = self.last_of(house)
            if leads and last and last[2] and last[3] == term and settled > last[5]:
                group = [sight[0] for sight in sights if slow_alike_up_to(log, sight[4]) >= settled]
                if not any(slow_is_quorum(slow_sets_by(log[:place], self.first), group)
                           for place in range(settled, len(log) + 1)):
                    found.append((house, settled))
        return found

    def no_seat(self, sights):
        found = []
        for house, _, leads, _, log, _ in sights:
            row = row_of_sets(log, self.first)
            ahead = row[-1][2] if row else (self.first,)
            if leads and not seat_in(slow_sets_by(log, self.first), house) and not seat_in(ahead, house):
                found.append((house,))
        return found

    def missed(self, sights):
        return [(sight[0], place) for sight in sights for place, sets, ahead in row_of_sets(sight[4], self.first)
                if not slow_meet(ahead, sets)]


def small_standing(chance):
    """A standing of few houses: of many the slow way to know whether they meet is too slow."""
    voters = chance.sample(range(8), chance.randint(1, 3))
    learners = [house for house in chance.sample(range(8), 2) if house not in voters]
    return tuple(sorted(voters)), tuple(sorted(chance.sample(range(8, 12), chance.choice([0, 0, 1])))), \
        tuple(sorted(learners))


class DrawnSights:
    """Lists of sights of a history by chance, good but for a part of a sight now and then."""

    def __init__(self, chance, wild):
        self.chance = chance
        self.wild = wild
        self.first = small_standing(chance)
        # Sets that may not meet others; those of `first` meet each other.
        self.pool = [(small_standing(chance),), (small_standing(chance), self.first), (self.first, self.first)]
        self.truth = []
        self.term = 1
        self.leader = chance.choice(self.first[0])
        self.longs = [0] * 12
        self.settled = [0] * 12
        self.awake = [True] * 12

    def list(self):
        """The next list."""
        if self.chance.random() < 0.15:
            self.term += self.chance.choice([1, 1, 2, 10 ** 28])
            self.leader = self.chance.choice(self.first[0])
        for _ in range(self.chance.choice([0, 1, 1, 2])):
            self.truth.append(self.entry())
        for house in range(12):
            self.move(house)
        houses = self.chance.sample(range(12), self.chance.choice([0, 1, 3, 6, 10, 12, 12, 12]))
        sights = [self.sight(house) for house in houses]
        if sights and self.chance.random() < self.wild:
            place = self.chance.randrange(len(sights))
            sights[place] = self.spoilt(sights[place])
        return sights

    def entry(self):
        draw = self.chance.random()
        if draw < 0.2:
            far = self.chance.random() < self.wild / 4
            return self.term, ("sets", self.chance.choice(self.pool) if far else (self.first,))
        return self.term, ("none",) if draw < 0.3 else ("number", self.chance.randint(0, 3))

    def move(self, house):
        """Let a house sleep or wake, hear of more entries, and tell more as settled."""
        self.awake[house] = self.chance.random() < (0.9 if self.awake[house] else 0.4)
        self.longs[house] = self.chance.randint(self.longs[house], len(self.truth))
        if house == self.leader:
            self.longs[house] = len(self.truth)
        voters = sorted(self.longs[voter] for voter in range(12) if voter in self.first[0] + self.first[1])
        known = min(voters[(len(voters) - 1) // 2], self.longs[house])
        self.settled[house] = max(self.settled[house], self.chance.randint(0, known)) if self.awake[house] else 0

    def sight(self, house):
        log = [(term, ("kept",)) if what[0] == "number" and house > 7 else (term, what)
               for term, what in self.truth[:self.longs[house]]]
        awake = self.awake[house]
        return house, awake, awake and house == self.leader, self.term, log, self.settled[house]

    def spoilt(self, sight):
        """A sight with one part otherwise."""
        house, awake, leads, term, log, settled = sight
        draw = self.chance.random()
        if draw < 0.2 and settled > 0:
            settled -= 1
        elif draw < 0.45 and awake:
            settled = len(log)
        elif draw < 0.6 and awake:
            leads, term = True, self.chance.choice([term] + 4 * [10 ** 29 + self.chance.randrange(10 ** 6)])
        elif log:
            log = list(log)
            place = self.chance.randrange(len(log))
            other = self.chance.choice([0, 0, 10 ** 29 if place == len(log) - 1 else 0])
            log[place] = (log[place][0] + other, self.chance.choice([
                ("kept",), ("number", 7), ("none",), ("sets", self.chance.choice(self.pool))]))
        return house, awake, leads, term, log, settled
