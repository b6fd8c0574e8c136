"""Histories of a net, drawn by chance, and what must hold of each behind each of its deeds (points 4, 16, 20, 25)."""

from jointseat.changes import changed
from jointseat.errors import NoChange, SeatError
from jointseat.net import Net

from support import chance_of, slow_is_quorum, slow_missed, some_standing

HOUSES = list(range(12))
WORDS = ["learner", "voter", "witness", "leave"]


def kept_form(entry):
    return (entry[0], ("kept",)) if entry[1][0] == "number" else entry


def alike(one, other):
    """Whether two entries are alike, by the words of point 11."""
    return one == other or (kept_form(one) == kept_form(other) and ("kept",) in (one[1], other[1]))


def alike_logs(one, other):
    return len(one) == len(other) and all(map(alike, one, other))


def all_sets(log, first):
    """The sets of a log in their order, those of the first standing ahead."""
    return [(first,)] + [what[1] for _, what in log if what[0] == "sets"]


def mark_of(log):
    """The place of the last entry of sets, 0 for none."""
    return max([place for place, (_, what) in enumerate(log, 1) if what[0] == "sets"], default=0)


def is_changing(log, first, settled):
    """Whether a change is under way, by the words of point 16."""
    return len(all_sets(log, first)[-1]) == 2 or mark_of(log) > settled


def seats(sets, house):
    return any(house in standing[0] for standing in sets)


def edits_of(standing):
    """All edits that can be done to a standing, with the standing behind each."""
    found = []
    for word in WORDS:
        for house in HOUSES:
            try:
                found.append(((word, house), changed(standing, (word, house))))
            except NoChange:
                pass
    return found


def leader_of(net):
    """The house that leads in the greatest term, None where none leads."""
    leaders = [house for house in HOUSES if net.sight(house)[2]]
    return max(leaders, key=lambda house: net.sight(house)[3]) if leaders else None


def led_net(first):
    """A net in calm, and the house that leads in it."""
    net = Net(first)
    net.calm(120)
    return net, leader_of(net)


class Broken(AssertionError):
    """A promise that didn't hold."""


def claim(holds, *why):
    if not holds:
        raise Broken(why)


class Judge:
    """Sees all sights of a net behind each deed, and says where the whole's promise is broken."""

    def __init__(self, net, first):
        self.net = net
        self.first = first
        self.leaders = {}
        self.entries = {}
        self.settled = []
        self.pairs = {}
        self.reads = {}
        self.sights = [net.sight(house) for house in HOUSES]
        self.strict_misses = 0
        self.deeds = 0
        self.is_single = False
        # A watch that is shown all sights behind each deed, where one is set.
        self.watch = None

    def see(self, *houses):
        """See some houses, the only ones of which a deed may have changed something; else all."""
        self.deeds += 1
        self.is_single = len(houses) > 0
        changed = [(house, self.sights[house], self.net.sight(house)) for house in houses or HOUSES]
        for house, _, new in changed:
            self.sights[house] = new
        for _, old, new in changed:
            if old != new:
                self.see_house(old, new)
            self.see_queue(new)
            self.see_reads(new)
        if self.watch is not None:
            breach = self.watch.show(self.sights)
            claim(breach is None, "the watch", breach)

    def see_shown(self, sights):
        """See other sights of some houses."""
        for sight in sights:
            self.net.shown[sight[0]] = sight
        self.see()

    def see_house(self, old, new):
        house, awake, leads, term, log, settled = new
        claim(term >= old[3], "a term fell", house)
        claim(0 <= settled <= len(log), "settled beyond the log", house)
        if not awake:
            claim(not leads and settled == 0, "asleep", house)
        elif old[1]:
            claim(settled >= old[5], "fallen", house)
            if old[2] and not leads and term == old[3]:
                seat = seats(all_sets(log, self.first)[-1], house)
                claim(settled == len(log) and not seat, "leads no more, and has a seat or more to settle", house)
        if log != old[4]:
            self.see_log(house, log)
        for place, entry in enumerate(log[:settled]):
            if place == len(self.settled):
                self.settled.append(entry)
            claim(alike(entry, self.settled[place]), "turned", house, place + 1)
            if entry[1][0] == "number":
                self.settled[place] = entry
        if leads:
            claim(self.leaders.setdefault(term, house) == house, "two lead", term)
            self.see_lead(old, new)

    def see_log(self, house, log):
        ahead = 0
        for place, entry in enumerate(log, 1):
            claim(ahead <= entry[0], "terms fall", house, place)
            known = self.entries.setdefault((place, entry[0]), (ahead, entry))
            claim(known[0] == ahead and alike(known[1], entry), "parted", house, place)
            if known[1][1] == ("kept",):
                self.entries[place, entry[0]] = (ahead, entry)
            if entry[1] == ("kept",):
                claim(house >= 8, "a house with room keeps no number", house)
            if entry[1][0] == "number":
                claim(house < 8, "a house without room keeps a number", house)
            ahead = entry[0]
        row = all_sets(log, self.first)
        for one, other in zip(row, row[1:]):
            if (one, other) not in self.pairs:
                self.pairs[one, other] = self.follows(one, other) and slow_missed(one, other) is None
            claim(self.pairs[one, other], "sets don't follow", house, one, other)

    def follows(self, one, other):
        """Whether sets follow others by the way of a single edit."""
        if len(one) == 2:
            return other == one[1:]
        after = [new for _, new in edits_of(one[0])]
        if other[-1] not in after:
            return False
        same = one[0][:2] == other[-1][:2]
        return other == ((other[-1],) if same else (one[0], other[-1]))

    def see_lead(self, old, new):
        house, _, _, term, log, settled = new
        row = all_sets(log, self.first)
        claim(seats(row[-1], house) or (len(row) > 1 and seats(row[-2], house)), "no seat", house)
        if settled > old[5]:
            group = [sight[0] for sight in self.sights if alike_logs(sight[4][:settled], log[:settled])]
            claim(any(slow_is_quorum(all_sets(log[:place], self.first)[-1], group)
                      for place in range(settled, len(log) + 1)), "no quorum", house, settled)
            self.strict_misses += not slow_is_quorum(row[-1], group)
        if not old[2]:
            claim((term, ("none",)) in log, "a lead without its entry", house)
            # Behind calm rounds the house may have been told of others' entries as well.
            many = len(old[4])
            claim(not self.is_single or log[:many + 1] == old[4] + [(term, ("none",))], "a lead without its log", house)

    def see_queue(self, sight):
        house, _, leads, _, log, settled = sight
        queue = self.net.waiting(house)
        claim(self.net.sets(house) == all_sets(log, self.first)[-1], "sets", house)
        if not leads:
            claim(queue == [], "waits without a lead", house)
        elif seats(self.net.sets(house), house):
            claim(queue == [] or is_changing(log, self.first, settled), "waits for nothing", house)
        else:
            claim(settled < len(log), "leads on without a seat", house)

    def asked_read(self, house, number):
        """Take in a read that a house was asked just now."""
        asked = self.reads.setdefault((house, self.net.sight(house)[3]), [])
        claim(number == len(asked), "the number of a read", house, number)
        asked.append([len(self.settled), None])
        self.see(house)

    def see_reads(self, sight):
        house, _, leads, term, log, settled = sight
        told = self.net.reads(house)
        if not leads:
            claim(told == [], "reads without a lead", house)
        asked = self.reads.get((house, term), [])
        claim(told == sorted(told) and len({number for number, _ in told}) == len(told), "order of reads", house)
        if leads:
            claim([number for number, _ in told] == [number for number, (_, answer) in enumerate(asked)
                                                     if answer is not None or number in dict(told)], "reads", house)
        for number, answer in told:
            floor, earlier = asked[number]
            claim(earlier in (None, answer), "an answer turned", house, number)
            claim(floor <= answer <= settled, "a read that is too old", house, number, floor, answer)
            claim(log[answer - 1][0] == term, "a read without an entry of the term", house)
            asked[number][1] = answer


def drawn_standing(chance):
    """A standing by chance, oftener one of few houses: there the others have less to say."""
    if chance.random() < 0.4:
        return some_standing(chance, chance.choice([1, 2, 3, 5, 7]))
    houses = chance.sample(range(8), 4)
    witnesses = chance.sample(range(8, 12), chance.choice([0, 0, 1, 2]))
    many = chance.randint(2, 4)
    return tuple(sorted(houses[:many])), tuple(sorted(witnesses)), tuple(sorted(houses[many:]))


class History:
    """A net that is told deeds drawn by chance, with a judge behind each of them."""

    def __init__(self, seed, first=None):
        self.chance = chance_of(seed)
        self.first = first or drawn_standing(self.chance)
        self.net = Net(self.first)
        self.judge = Judge(self.net, self.first)
        self.busy = self.chance.choice([0.01, 0.03, 0.1, 0.3])
        self.wild = self.chance.choice([0.0, 0.02, 0.1, 0.3])
        self.sleepy = self.chance.choice([0.0, 0.005, 0.02])
        self.most_asleep = self.chance.choice([1, 3, 12])
        self.apart = self.chance.choice([0.0, 0.3, 0.7])
        self.news = 0

    def leaders(self):
        return [house for house in HOUSES if self.judge.sights[house][2]]

    def members(self):
        """The houses that are somewhere by some log, for which deeds are drawn oftener."""
        return sorted({house for other in HOUSES for standing in self.net.sets(other)
                       for part in standing for house in part})

    def run(self, deeds):
        end = self.judge.deeds + deeds
        while self.judge.deeds < end:
            draw = self.chance.random()
            if draw < 0.2:
                self.stay_apart()
            elif draw < 0.9:
                self.be_restless()
            for _ in range(self.chance.choice([0, 0, 5, 20])):
                self.step()

    def step(self):
        """A deed of any kind with any house or letter."""
        draw = self.chance.random()
        if draw < self.busy:
            self.ask_something(self.chance.choice(self.leaders() or HOUSES))
        elif draw < self.busy + self.sleepy:
            self.stop_or_wake()
        elif len(self.net) and draw < 0.7:
            self.move(self.chance.choice(self.net.letters()))
        else:
            self.beat(self.chance.choice(self.members()))

    def stay_apart(self):
        """Rounds in which only some houses hear of one another; what is told to others comes late, or is lost."""
        members = self.members()
        group = members if self.chance.random() > self.apart else self.chance.sample(
            members, self.chance.randint((len(members) + 1) // 2, len(members)))
        budget = self.chance.choice([1, 3, 8, 30, 100])
        for _ in range(self.chance.choice([1, 5, 12, 25])):
            for house in group:
                self.beat(house)
            for number, one, other in self.net.letters()[-budget:]:
                if one in group and other in group:
                    self.move((number, one, other))
            for house in self.leaders():
                if self.chance.random() < 3 * self.busy:
                    self.ask_something(house)
                if house not in group and self.chance.random() < 0.3:
                    self.beat(house)
            if self.chance.random() < 10 * self.sleepy:
                self.stop_or_wake()

    def be_restless(self):
        """Some houses hear nothing of the one that leads, and seek the lead; it may go on all the same."""
        members = self.members()
        if self.chance.random() < 0.8:
            members = [house for house in members if house not in self.leaders()]
        group = self.chance.sample(members, self.chance.randint((len(members) + 1) // 2, len(members)))
        for leader in self.leaders():
            self.go_on_alone(leader)
        fresh = self.net.letters()[-1][0] + 1 if len(self.net) else 0
        for house in group:
            for _ in range(self.chance.choice([8, 8, 18])):
                if house not in self.leaders():
                    self.beat(house)
        for _ in range(self.chance.choice([5, 15, 40, 100])):
            among = [letter for letter in self.net.letters()
                     if letter[0] >= fresh and letter[1] in group and letter[2] in group]
            if not among:
                break
            self.move(among[0] if self.chance.random() < 0.8 else self.chance.choice(among))
            draw = self.chance.random()
            if draw < self.busy:
                self.ask_something(self.chance.choice(self.leaders() or HOUSES))
            elif draw < self.busy + 2 * self.sleepy:
                self.stop_or_wake()
            elif draw > 0.97:
                self.beat(self.chance.choice(group + self.leaders()))

    def go_on_alone(self, leader):
        """One that leads is asked this and that, and few hear of it."""
        for _ in range(self.chance.choice([0, 0, 1, 1, 3])):
            if leader in self.leaders():
                self.ask_something(leader)
        self.beat(leader)
        for _ in range(self.chance.choice([0, 0, 1, 2])):
            told = [letter for letter in self.net.letters() if letter[1] == leader]
            if told:
                self.move(self.chance.choice(told[-6:]))

    def beat(self, house):
        self.net.beat(house)
        self.judge.see(house)
        while len(self.net) > 230:
            self.net.lose(self.chance.choice(self.net.letters())[0])

    def move(self, letter):
        number, _, other = letter
        draw = self.chance.random()
        if draw < self.wild / 2:
            self.net.lose(number)
        else:
            self.net.deliver(number, keep=draw < self.wild)
        self.judge.see(other)

    def stop_or_wake(self):
        asleep = [sight[0] for sight in self.judge.sights if not sight[1]]
        if asleep and (len(asleep) >= self.most_asleep or self.chance.random() < 0.5):
            house = self.chance.choice(asleep)
            self.net.wake(house)
        else:
            house = self.chance.choice(self.leaders() + self.members())
            self.net.stop(house)
        self.judge.see(house)
        if self.net.sight(house)[1] is False and self.chance.random() < 0.3:
            self.net.wake(house)
            self.judge.see(house)

    def ask_something(self, house):
        draw = self.chance.random()
        leads = self.net.sight(house)[2]
        try:
            if draw < 0.5:
                self.ask(house)
            elif draw < 0.7:
                self.change(house)
            elif draw < 0.9:
                self.judge.asked_read(house, self.net.read(house))
            else:
                self.net.hand(house, self.chance.choice(self.members()))
        except SeatError:
            claim(not leads or draw >= 0.9, "refused", house)
        self.judge.see(house)

    def ask(self, house):
        self.news += 1
        log = self.net.sight(house)[4]
        if len(log) < 200:
            claim(self.net.ask(house, self.news) == len(log) + 1, "the place of a number", house)
            entry = (self.net.sight(house)[3], ("number", self.news))
            claim(self.net.sight(house)[4][:len(log) + 1] == log + [entry], "a number asked", house)

    def try_change(self, house, edit):
        """Ask a change, be it refused."""
        try:
            self.net.change(house, edit)
        except NoChange:
            pass
        self.judge.see(house)

    def standing_of_all_asked(self, house):
        standing = self.net.sets(house)[-1]
        for edit in self.net.waiting(house):
            standing = changed(standing, edit)
        return standing

    def change(self, house, keep_voter=False):
        """Ask a change that can be done; tell whether there was one."""
        standing = self.standing_of_all_asked(house)
        edits = [edit for edit, after in edits_of(standing) if not keep_voter or house in after[0]]
        if not edits or len(self.net.sight(house)[4]) > 200 or house not in self.leaders():
            return False
        many = len(self.net.waiting(house))
        claim(self.net.change(house, self.chance.choice(edits)) == many + 1, "how many wait", house)
        return True

    def unsettled_changes(self):
        """How many changes are under way or wait anywhere."""
        under_way = sum(is_changing(*[self.net.sight(house)[4], self.first, self.net.sight(house)[5]])
                        for house in HOUSES)
        return under_way + sum(len(self.net.waiting(house)) for house in HOUSES)

    def calm_down(self):
        """Wake all, and see that one leads behind the rounds that point 20 tells."""
        for house in HOUSES:
            self.net.wake(house)
        self.judge.see()
        marks = {mark_of(self.net.sight(house)[4]) for house in HOUSES}
        changes = max([len(self.net.waiting(house)) for house in HOUSES]) + (1 if len(marks) > 1 else 0)
        rounds = 120 + 60 * min(changes, self.unsettled_changes())
        self.read_of_all()
        self.calm(rounds - 3)
        return self.see_calm()

    def read_of_all(self):
        """Ask a read of all that lead: behind three rounds it is answered by those that lead on."""
        asked = []
        for house in self.leaders():
            asked.append((house, self.net.sight(house)[3], self.net.read(house)))
            self.judge.asked_read(house, asked[-1][2])
        self.calm(3)
        for house, term, number in asked:
            leads_on = self.net.sight(house)[2] and self.net.sight(house)[3] == term
            claim(not leads_on or number in dict(self.net.reads(house)), "a read in calm", house)

    def calm(self, rounds):
        for _ in range(rounds):
            self.net.calm()
            self.judge.see()

    def see_calm(self):
        leaders = self.leaders()
        claim(len(leaders) == 1, "who leads in calm", leaders)
        leader = leaders[0]
        sight = self.net.sight(leader)
        claim(all(self.net.sight(house)[3] <= sight[3] for house in HOUSES), "not the greatest term", leader)
        claim(not is_changing(sight[4], self.first, sight[5]), "a change under way in calm", leader)
        claim(self.net.waiting(leader) == [], "waits in calm", leader)
        return leader

    def ask_in_calm(self, leader):
        """Ask numbers and changes of the one that leads in calm, and see that all are settled."""
        term = self.net.sight(leader)[3]
        places = []
        changes = 0
        for _ in range(self.chance.randint(0, 4)):
            if self.chance.random() < 0.5:
                self.news += 1
                places.append((self.net.ask(leader, self.news), (term, ("number", self.news))))
            elif self.change(leader, keep_voter=True):
                changes += 1
            self.judge.see()
        goal = self.standing_of_all_asked(leader)
        number = self.net.read(leader)
        self.judge.asked_read(leader, number)
        self.calm(3)
        claim(number in dict(self.net.reads(leader)), "a read in calm", leader)
        self.calm(17 + 60 * changes)
        claim(self.see_calm() == leader and self.net.sight(leader)[3] == term, "leads no more in calm", leader)
        self.see_all_settled(leader, places, goal)

    def see_all_settled(self, leader, places, goal):
        log, settled = self.net.sight(leader)[4:]
        claim(settled == len(log), "unsettled in calm", leader)
        claim(all(log[place - 1] == entry for place, entry in places), "a number is gone", leader)
        claim(self.net.sets(leader) == (goal,), "not the standing that was asked", leader)
        for part in goal:
            for house in part:
                told = self.net.sight(house)
                claim(told[5] == settled and alike_logs(told[4][:settled], log), "a house is behind", house)

    def hand_in_calm(self, leader):
        """Hand the lead over in calm, and see that it goes over with all that was settled."""
        others = [house for house in self.net.sets(leader)[-1][0] if house != leader]
        if not others:
            return leader
        heir = self.chance.choice(others)
        term = self.net.sight(leader)[3]
        log = self.net.sight(leader)[4]
        self.net.hand(leader, heir)
        self.judge.see()
        self.calm(5)
        claim(self.see_calm() == heir and self.net.sight(heir)[3] > term, "not handed over", leader, heir)
        term = self.net.sight(heir)[3]
        self.calm(5)
        told = self.net.sight(heir)
        claim(told[5] >= len(log) and told[4][:len(log)] == log, "less is settled at the heir", heir)
        self.calm(20)
        claim(self.see_calm() == heir and self.net.sight(heir)[3] == term, "the heir leads no more", heir)
        return heir


def run_history(seed, deeds):
    """Draw a history, then calm; tell the judge."""
    history = History(seed)
    for _ in range(history.chance.randint(1, 3)):
        history.run(history.chance.randint(deeds // 4, deeds))
        leader = history.calm_down()
        history.calm(history.chance.choice([0, 1, 40]))
        claim(history.see_calm() == leader, "another one leads in calm", leader)
        for _ in range(2):
            history.ask_in_calm(leader)
            leader = history.hand_in_calm(leader)
        if len(history.net.sight(leader)[4]) > 150:
            break
    return history
