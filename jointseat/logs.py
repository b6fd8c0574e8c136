"""Logs: lists of entries, how far two are alike, the sets in effect, and what may be told as settled."""

from jointseat.standings import is_quorum, plain_sets, plain_standing

KEPT = ("kept",)


def plain_entry(entry):
    """Copy an entry that may have been handed in as lists to one of tuples."""
    term, what = entry
    if what[0] == "sets":
        return term, ("sets", plain_sets(what[1]))
    return term, tuple(what)


def kept_entry(entry):
    """Copy an entry, of one with a number only that it is there."""
    term, what = plain_entry(entry)
    if what[0] == "number":
        return term, KEPT
    return term, what


def kept_log(log):
    """List the entries of a log, of those with a number only that they are there."""
    return [kept_entry(entry) for entry in log]


def are_alike(one, other):
    """Tell whether two entries, tuples all through, are alike."""
    if one == other:
        return True
    words = (one[1][0], other[1][0])
    # Two that are kept, of one term, are the same.
    return one[0] == other[0] and words in (("kept", "number"), ("number", "kept"))


def alike_up_to(one, other):
    """Tell up to which place, each entry from the first on, two logs are alike."""
    return plain_alike_up_to(_plain_log(one), _plain_log(other))


def _plain_log(log):
    return [plain_entry(entry) for entry in log]


def plain_alike_up_to(one, other):
    """Tell up to which place two logs are alike, whose entries are tuples all through."""
    for ahead, (mine, theirs) in enumerate(zip(one, other)):
        if not are_alike(mine, theirs):
            return ahead
    return min(len(one), len(other))


def as_new(one, other):
    """Tell whether the one log is as new as the other."""
    return (_last_term(one), len(one)) >= (_last_term(other), len(other))


def _last_term(log):
    if len(log) == 0:
        return 0
    return log[-1][0]


def agree(one, other):
    """Tell whether two logs are alike up to each place at which both have an entry of one term."""
    return plain_agree(_plain_log(one), _plain_log(other))


def plain_agree(one, other):
    """Tell whether two logs agree, whose entries are tuples all through."""
    upto = plain_alike_up_to(one, other)
    return not any([mine[0] == theirs[0] for mine, theirs in zip(one[upto:], other[upto:])])


def sets_by(log, first):
    """Tell the sets in effect by a log, over a first standing."""
    for _, what in reversed(log):
        if what[0] == "sets":
            return plain_sets(what[1])
    return (plain_standing(first),)


def settled_by(log, first, *, term, places):
    """Tell the greatest place with an entry of the term that a quorum's places reach, 0 for none."""
    place = min(len(log), quorum_reach(sets_by(log, first), places))
    # Terms never fall: ahead of an entry of a lesser term there is none of this one.
    while place > 0 and log[place - 1][0] > term:
        place -= 1
    if place > 0 and log[place - 1][0] == term:
        return place
    return 0


def quorum_reach(sets, places):
    """Tell the greatest of the places such that the houses at it or beyond are a quorum, 0 for none."""
    for level in sorted([place for _, place in places], reverse=True):
        if is_quorum(sets, [house for house, place in places if place >= level]):
            return level
    return 0
