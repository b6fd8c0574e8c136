"""What several tests need: the words of the document gone over again, the slow way."""

import random
from itertools import combinations

ROOMY = list(range(8))
ROOMLESS = list(range(8, 12))
STRANGERS = [-1, -3, 12, 13, 10 ** 29, -(10 ** 29)]


def votes_of(standing):
    return list(standing[0]) + list(standing[1])


def slow_who_votes(sets):
    return [house for house in range(12) if any(house in votes_of(standing) for standing in sets)]


def slow_is_quorum(sets, group):
    for voters, witnesses, _ in sets:
        present = set(group) & set(voters)
        helping = set(group) & set(witnesses)
        against = len(voters) + len(witnesses) - len(present) - len(helping)
        if not present or len(present) + len(helping) <= against:
            return False
    return True


def all_groups(houses):
    return [list(group) for size in range(len(houses) + 1) for group in combinations(houses, size)]


def slow_least_quorums(sets):
    quorums = [group for group in all_groups(slow_who_votes(sets)) if slow_is_quorum(sets, group)]
    kept = []
    for group in sorted(quorums, key=len):
        if not any(set(least) <= set(group) for least in kept):
            kept.append(group)
    return sorted(kept)


def slow_missed(one, other):
    others = [(set(group), group) for group in slow_least_quorums(other)]
    pairs = [(first, group) for first in slow_least_quorums(one) for found, group in others if found.isdisjoint(first)]
    return min(pairs) if pairs else None


def some_standing(chance, most_voters=7):
    """A standing by chance, made here without the program."""
    houses = chance.sample(ROOMY, 8)
    voters = houses[:chance.randint(1, most_voters)]
    witnesses = chance.sample(ROOMLESS, chance.randint(0, min(4, 7 - len(voters))))
    learners = houses[len(voters):][:chance.randint(0, 8 - len(voters))]
    return tuple(sorted(voters)), tuple(sorted(witnesses)), tuple(sorted(learners))


def some_sets(chance, many, most_voters=7):
    """Sets by chance, every other one joint."""
    return [tuple(some_standing(chance, most_voters) for _ in range(1 + k % 2)) for k in range(many)]


def chance_of(seed):
    return random.Random(seed)


def as_lists(thing):
    """The same thing with a list in the place of each tuple."""
    return [as_lists(part) for part in thing] if isinstance(thing, (tuple, list)) else thing


def first_as_list(thing):
    """The same sets with lists and tuples mixed."""
    return [(list(standing[0]), tuple(standing[1]), list(standing[2])) for standing in thing]


def form_of(thing):
    """The kinds of a thing, down to what is within it."""
    if isinstance(thing, (tuple, list)):
        return type(thing), [form_of(part) for part in thing]
    return type(thing)


def refusal_of(deed, *handed, **named):
    """The error by which a call is refused, None where it isn't."""
    try:
        deed(*handed, **named)
    except Exception as error:
        return error
    return None


def as_tuples(thing):
    """The same thing with a tuple in the place of each list."""
    return tuple(as_tuples(part) for part in thing) if isinstance(thing, (tuple, list)) else thing


def some_what(chance):
    """What an entry may be of, by chance."""
    word = chance.choice(["none", "number", "number", "number", "sets", "kept"])
    if word == "number":
        return ("number", chance.choice([0, 1, 7, -7, 10 ** 29, -(10 ** 30) + 1, chance.randint(-99, 99)]))
    if word == "sets":
        return ("sets", tuple(some_standing(chance) for _ in range(chance.randint(1, 2))))
    return (word,)


def some_log(chance, size):
    """A log by chance."""
    term = 1
    log = []
    for _ in range(size):
        term += chance.choice([0, 0, 0, 1, 2])
        log.append((term, some_what(chance)))
    return log


def slow_alike(one, other):
    if one == other:
        return True
    kinds = {one[1][0], other[1][0]}
    return one[0] == other[0] and kinds <= {"number", "kept"} and "kept" in kinds


def slow_alike_up_to(one, other):
    many = min(len(one), len(other))
    return max(upto for upto in range(many + 1) if all(slow_alike(one[k], other[k]) for k in range(upto)))


def slow_agree(one, other):
    shared = [place for place in range(1, min(len(one), len(other)) + 1) if one[place - 1][0] == other[place - 1][0]]
    return all(slow_alike(one[k], other[k]) for place in shared for k in range(place))


def slow_sets_by(log, first):
    found = [what[1] for _, what in log if what[0] == "sets"]
    return found[-1] if found else (first,)
