"""Standings, sets of one or two of them, and their quorums."""

from jointseat.errors import NoStanding

MOST_HOUSES = 12
MOST_VOTES = 7
FIRST_WITHOUT_ROOM = 8
SEATS = ("voter", "witness", "learner")


def has_room(house):
    """Tell whether the number is one of a house with room."""
    return 0 <= house < FIRST_WITHOUT_ROOM


def lacks_room(house):
    """Tell whether the number is one of a house without room."""
    return FIRST_WITHOUT_ROOM <= house < MOST_HOUSES


def standing_of(voters, *, witnesses=(), learners=()):
    """Make a standing of three lists of houses in any order."""
    everyone = [*voters, *witnesses, *learners]
    if len(set(everyone)) < len(everyone):
        raise NoStanding("a house stands twice")
    if not all([has_room(house) for house in [*voters, *learners]]):
        raise NoStanding("a voter or a learner is no house with room")
    if not all([lacks_room(house) for house in witnesses]):
        raise NoStanding("a witness is no house without room")
    if len(voters) == 0:
        raise NoStanding("nobody is a voter")
    if len(voters) + len(witnesses) > MOST_VOTES:
        raise NoStanding("too many houses vote")
    return tuple(sorted(voters)), tuple(sorted(witnesses)), tuple(sorted(learners))


def plain_standing(standing):
    """Copy a standing that may have been handed in as lists to one of tuples."""
    return tuple([tuple(part) for part in standing])


def plain_sets(sets):
    """Copy sets that may have been handed in as lists to ones of tuples."""
    return tuple([plain_standing(standing) for standing in sets])


def members(sets):
    """List the houses that are somewhere in the sets, rising."""
    return sorted({house for standing in sets for part in standing for house in part})


def who_votes(sets):
    """List the houses that vote in any standing of the sets, rising."""
    return sorted({house for standing in sets for part in standing[:2] for house in part})


def seat_of(sets, house):
    """Tell what a house is in the sets: its seat, or "none"."""
    for place, seat in enumerate(SEATS):
        if any([house in standing[place] for standing in sets]):
            return seat
    return "none"


def is_quorum(sets, group):
    """Tell whether a group of numbers is a quorum of each standing of the sets."""
    return all([_is_quorum_of_one(standing, group) for standing in sets])


def _is_quorum_of_one(standing, group):
    voters = [house for house in standing[0] if house in group]
    witnesses = [house for house in standing[1] if house in group]
    return _is_enough(len(voters), len(witnesses), len(standing[0]) + len(standing[1]))


def _is_enough(voters, witnesses, votes):
    """Tell whether so many voters and witnesses are a quorum where so many houses vote."""
    return voters > 0 and 2 * (voters + witnesses) > votes


def least_quorums(sets):
    """List the quorums from which no house can be left out, by order as lists."""
    kinds = kinds_of(sets)
    tallies = tallies_of(sets, kinds)
    return least_groups(kinds, lambda counts: is_quorum_by(tallies, counts))


def least_groups(kinds, holds):
    """List the least groups of which something holds by how many of each kind they have, by order as lists.

    What holds of a group must hold of any that has more houses.
    """
    found = []
    for counts in _least_counts(kinds, holds):
        groups = [[]]
        for houses, many in zip(kinds.values(), counts):
            picks = _picks(houses, many)
            groups = [[*group, *pick] for group in groups for pick in picks]
        found.extend([sorted(group) for group in groups])
    return sorted(found)


def kinds_of(sets):
    """List the houses that vote by their seats in the standings, as signs: those of a kind count alike."""
    kinds = {}
    for house in who_votes(sets):
        seats = "".join([_sign(standing, house) for standing in sets])
        kinds.setdefault(seats, []).append(house)
    return kinds


def _sign(standing, house):
    if house in standing[0]:
        return "v"
    return "w" if house in standing[1] else "-"


def _picks(houses, many):
    """List all groups of so many of the houses."""
    groups = [[]]
    for house in houses:
        groups = [*groups, *[[*group, house] for group in groups if len(group) < many]]
    return [group for group in groups if len(group) == many]


def _least_counts(kinds, holds):
    """List how many houses of each kind make a least group."""
    found = []
    short = [[0] * len(kinds)]
    for place, houses in enumerate(kinds.values()):
        grown = [[*counts[:place], many, *counts[place + 1:]] for counts in short for many in range(len(houses) + 1)]
        full = [holds(counts) for counts in grown]
        # What holds grows no more: with another house it would not be a least group.
        found.extend([counts for counts, is_full in zip(grown, full) if is_full])
        short = [counts for counts, is_full in zip(grown, full) if not is_full]
    return [counts for counts in found if _needs_all(counts, holds)]


def _needs_all(counts, holds):
    for place, many in enumerate(counts):
        if many > 0 and holds([*counts[:place], many - 1, *counts[place + 1:]]):
            return False
    return True


def tallies_of(sets, kinds):
    """List by standing: how many vote in it, and the places of the kinds of its voters and its witnesses."""
    tallies = []
    for place, standing in enumerate(sets):
        signs = [seats[place] for seats in kinds]
        voters = [kind for kind, sign in enumerate(signs) if sign == "v"]
        witnesses = [kind for kind, sign in enumerate(signs) if sign == "w"]
        tallies.append((len(standing[0]) + len(standing[1]), voters, witnesses))
    return tallies


def is_quorum_by(tallies, counts):
    """Tell whether a group is a quorum of each standing, by how many houses of each kind it has."""
    for votes, voters, witnesses in tallies:
        many = sum([counts[kind] for kind in voters])
        if not _is_enough(many, sum([counts[kind] for kind in witnesses]), votes):
            return False
    return True


def missed(one, other):
    """Tell the first pair of least quorums without a common house, or None."""
    houses = who_votes(other)
    for quorum in least_quorums(one):
        # Only where all the houses left are a quorum can some of them be one.
        if is_quorum(other, [house for house in houses if house not in quorum]):
            return quorum, _first_apart(other, quorum)
    return None


def _first_apart(sets, group):
    for quorum in least_quorums(sets):
        if not _share_a_number(group, quorum):
            return quorum
    return None


def missed_shows(one, other, paper):
    """Tell whether a pair of groups shows that quorums of two sets miss each other."""
    first, second = paper
    return is_quorum(one, first) and is_quorum(other, second) and not _share_a_number(first, second)


def _share_a_number(one, other):
    return len(set(one) & set(other)) > 0
