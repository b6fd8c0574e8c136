"""Plans: which houses may sleep, and edits that lead from one standing to another while some do."""

from jointseat.changes import EDIT_WORDS, behind
from jointseat.standings import MOST_HOUSES, MOST_VOTES, is_quorum, plain_standing, seat_of, who_votes
from jointseat.standings import is_quorum_by, kinds_of, least_groups, tallies_of


def bears(sets, asleep):
    """Tell whether the houses that vote and are not asleep are a quorum of the sets."""
    return is_quorum(sets, [house for house in who_votes(sets) if house not in asleep])


def all_bear(row, asleep):
    """Tell whether all sets of a row bear the same houses asleep."""
    return all([bears(sets, asleep) for sets in row])


def weak_groups(sets):
    """List the groups that the sets don't bear, from which no house can be left out, by order as lists."""
    kinds = kinds_of(sets)
    tallies = tallies_of(sets, kinds)
    sizes = [len(houses) for houses in kinds.values()]
    return least_groups(kinds, lambda counts: not is_quorum_by(tallies, _rest(sizes, counts)))


def _rest(sizes, counts):
    return [size - many for size, many in zip(sizes, counts)]


def fewest_edits(old, new, *, asleep=()):
    """List as few edits as any from one standing to another whose way bears the houses asleep, the first such."""
    standing = plain_standing(old)
    goal = plain_standing(new)
    if standing == goal:
        return []
    # Joint sets bear what both their standings bear, so the standings alone are asked.
    # Between two that bear it there is always a way.
    if not all_bear([(standing,), (goal,)], asleep):
        return None
    edits = []
    while standing != goal:
        edit, standing = _first_step(standing, goal, asleep)
        edits.append(edit)
    return edits


def _first_step(standing, goal, asleep):
    """Tell the first edit that brings the goal nearer, and the standing behind it."""
    many = _many_edits(standing, goal, asleep)
    for word in EDIT_WORDS:
        for house in range(MOST_HOUSES):
            after = behind(standing, (word, house))
            if after is not None and bears((after,), asleep) and _many_edits(after, goal, asleep) < many:
                return (word, house), after
    return None


def _many_edits(standing, goal, asleep):
    """Tell how many edits lead to the goal at the least."""
    seats = [(seat_of((standing,), house), seat_of((goal,), house)) for house in range(MOST_HOUSES)]
    many = sum([_many_of_house(now, then) for now, then in seats])
    # One of those that stay gives its vote up for a while, and gets it back: two edits more.
    return many + 2 if _is_stuck(standing, goal, asleep) else many


def _many_of_house(now, then):
    if now == then:
        return 0
    return 2 if (now, then) == ("none", "voter") else 1


def _is_stuck(standing, goal, asleep):
    """Tell whether as many vote as may, and none of those that must go for others can go ahead of these."""
    votes = who_votes((standing,))
    wanted = who_votes((goal,))
    going = [house for house in votes if house not in wanted]
    if len(votes) < MOST_VOTES or len(going) == 0:
        return False
    return not any([bears((behind(standing, ("leave", house)),), asleep) for house in going])
