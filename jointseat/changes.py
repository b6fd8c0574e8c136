"""Edits of a standing, the ways from one standing to another, and rows of sets."""

from jointseat.errors import NoChange
from jointseat.standings import MOST_VOTES, has_room, lacks_room, missed, plain_standing, seat_of, who_votes

# By order, as edits go by it.
EDIT_WORDS = ("learner", "leave", "voter", "witness")
# The part of a standing in which an edit seats its house; "leave" seats it nowhere.
PART_OF_EDIT = {"voter": 0, "witness": 1, "learner": 2}


def changed(standing, edit):
    """Tell the standing behind an edit."""
    after = behind(standing, edit)
    if after is None:
        raise NoChange()
    return after


def behind(standing, edit):
    """Tell the standing behind an edit, None where the edit can't be done."""
    word, house = edit
    if not _is_wanted(word, house, seat_of((standing,), house)):
        return None
    parts = [[other for other in part if other != house] for part in standing]
    if word in PART_OF_EDIT:
        parts[PART_OF_EDIT[word]].append(house)
    after = tuple([tuple(sorted(part)) for part in parts])
    if len(after[0]) == 0 or len(who_votes((after,))) > MOST_VOTES:
        return None
    return after


def _is_wanted(word, house, seat):
    if word == "learner":
        return seat == "voter" or (seat == "none" and has_room(house))
    if word == "voter":
        return seat == "learner"
    if word == "witness":
        return seat == "none" and lacks_room(house)
    return word == "leave" and seat != "none"


def way(old, new):
    """List the sets that lead from one standing to another."""
    start = plain_standing(old)
    goal = plain_standing(new)
    if start == goal:
        return []
    if start[:2] == goal[:2]:
        return [(goal,)]
    return [(start, goal), (goal,)]


def way_of(standing, edits):
    """List the sets of the ways of some edits, one behind the other."""
    steps = []
    before = standing
    for place, edit in enumerate(edits):
        after = behind(before, edit)
        if after is None:
            raise NoChange(place)
        steps.extend(way(before, after))
        before = after
    return steps


def first_miss(row):
    """Tell the place of the first sets that don't meet the next ones, and the paper, or None."""
    for place in range(len(row) - 1):
        paper = missed(row[place], row[place + 1])
        if paper is not None:
            return place, paper
    return None
