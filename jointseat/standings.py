"""Standings, sets of one or two of them, and their quorums."""

from jointseat.errors import NoStanding

MOST_HOUSES = 12
MOST_VOTES = 7
FIRST_WITHOUT_ROOM = 8
SEATS = ("voter", "witness", "learner")


def has_room(house):
    """Tell whether the number is one of a house with room."""
    return 0 <= house < FIRST_WITHOUT_ROOM


def lacks_room(house):
    """Tell whether the number is one of a house without room."""
    return FIRST_WITHOUT_ROOM <= house < MOST_HOUSES


def standing_of(voters, *, witnesses=(), learners=()):
    """Make a standing of three lists of houses in any order."""
    everyone = [*voters, *witnesses, *learners]
    if len(set(everyone)) < len(everyone):
        raise NoStanding("a house stands twice")
    if not all([has_room(house) for house in [*voters, *learners]]):
        raise NoStanding("a voter or a learner is no house with room")
    if not all([lacks_room(house) for house in witnesses]):
        raise NoStanding("a witness is no house without room")
    if len(voters) == 0:
        raise NoStanding("nobody is a voter")
    if len(voters) + len(witnesses) > MOST_VOTES:
        raise NoStanding("too many houses vote")
    return tuple(sorted(voters)), tuple(sorted(witnesses)), tuple(sorted(learners))


def plain_standing(standing):
    """Copy a standing that may have been handed in as lists to one of tuples."""
    return tuple([tuple(part) for part in standing])


def who_votes(sets):
    """List the houses that vote in any standing of the sets, rising."""
    return sorted({house for standing in sets for part in standing[:2] for house in part})


def seat_of(sets, house):
    """Tell what a house is in the sets: its seat, or "none"."""
    for place, seat in enumerate(SEATS):
        if any([house in standing[place] for standing in sets]):
            return seat
    return "none"


def is_quorum(sets, group):
    """Tell whether a group of numbers is a quorum of each standing of the sets."""
    return all([_is_quorum_of_one(standing, group) for standing in sets])


def _is_quorum_of_one(standing, group):
    voters = [house for house in standing[0] if house in group]
    witnesses = [house for house in standing[1] if house in group]
    many = len(standing[0]) + len(standing[1])
    return len(voters) > 0 and 2 * (len(voters) + len(witnesses)) > many


def least_quorums(sets):
    """List the quorums from which no house can be left out, by order as lists."""
    found = []
    short = [[]]
    for house in who_votes(sets):
        grown = [[*group, house] for group in short]
        quorate = [is_quorum(sets, group) for group in grown]
        # What is a quorum grows no more: with another house it would not be a least one.
        found.extend([group for group, full in zip(grown, quorate) if full])
        short.extend([group for group, full in zip(grown, quorate) if not full])
    return sorted([group for group in found if _needs_all(sets, group)])


def _needs_all(sets, group):
    for house in group:
        if is_quorum(sets, [other for other in group if other != house]):
            return False
    return True


def missed(one, other):
    """Tell the first pair of least quorums without a common house, or None."""
    houses = who_votes(other)
    for quorum in least_quorums(one):
        # Only where all the houses left are a quorum can some of them be one.
        if is_quorum(other, [house for house in houses if house not in quorum]):
            return quorum, _first_apart(other, quorum)
    return None


def _first_apart(sets, group):
    for quorum in least_quorums(sets):
        if not _share_a_number(group, quorum):
            return quorum
    return None


def missed_shows(one, other, paper):
    """Tell whether a pair of groups shows that quorums of two sets miss each other."""
    first, second = paper
    return is_quorum(one, first) and is_quorum(other, second) and not _share_a_number(first, second)


def _share_a_number(one, other):
    return len(set(one) & set(other)) > 0
