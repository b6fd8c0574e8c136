"""The rows that a desk is told, and the texts by which it answers."""

from jointseat.changes import EDIT_WORDS
from jointseat.errors import NoForm

# What stands behind a row's first word, a sign for each word: H a house, N a number, V a value (a number that may
# be below 0), E an edit's word, O the house of an edit, S a standing.
FORMS = {
    "beat": "H", "stop": "H", "wake": "H", "deliver": "N", "lose": "N", "twice": "N", "calm": "N",
    "ask": "HV", "change": "HEO",
    "letters": "", "house": "H", "log": "H", "sets": "H", "record": "", "waits": "H", "leader": "",
    "begin": "S",
}
FIGURES = "0123456789"
MOST_FIGURES = 5
# How an entry is told that has no number.
SIGNS = {"none": "-", "kept": "?", "sets": "S"}


def read_row(row):
    """Tell a row's first word, and a list of what the others say."""
    word, *others = row.split(" ")
    form = FORMS.get(word)
    if form is None or len(others) != len(form):
        raise NoForm("no row begins so, or the words are more or fewer")
    return word, [_read_word(sign, other) for sign, other in zip(form, others)]


def _read_word(sign, word):
    if sign == "V" and word.startswith("-"):
        return -_read_number(word[1:])
    if sign == "E":
        return _read_edit_word(word)
    if sign == "S":
        return _read_standing(word)
    return _read_number(word)


def _read_number(word):
    if len(word) == 0 or len(word) > MOST_FIGURES or not all([sign in FIGURES for sign in word]):
        raise NoForm("no number of one to five figures")
    if len(word) > 1 and word[0] == "0":
        raise NoForm("a nought ahead of a number")
    return int(word)


def _read_edit_word(word):
    if word not in EDIT_WORDS:
        raise NoForm("no word of an edit")
    return word


def _read_standing(word):
    """List the houses of the three parts of one standing."""
    parts = word.split("/")
    if len(parts) != 3:
        raise NoForm("a standing has three parts")
    return [[] if part == "-" else [_read_number(house) for house in part.split(",")] for part in parts]


def entry_text(entry):
    """Tell an entry as a text."""
    term, what = entry
    sign = str(what[1]) if what[0] == "number" else SIGNS[what[0]]
    return f"{term}:{sign}"


def log_text(log):
    """Tell entries as a text."""
    return " ".join([entry_text(entry) for entry in log])


def sets_text(sets):
    """Tell sets as a text."""
    return "+".join([_standing_text(standing) for standing in sets])


def _standing_text(standing):
    return "/".join([_houses_text(part) for part in standing])


def _houses_text(houses):
    if len(houses) == 0:
        return "-"
    return ",".join([str(house) for house in houses])


def letters_text(letters):
    """Tell letters under way as a text."""
    return " ".join([f"{number} {house}>{to}" for number, house, to in letters])


def edits_text(edits):
    """Tell edits as a text."""
    return "; ".join([f"{word} {house}" for word, house in edits])


def sight_text(sight):
    """Tell a sight as a text, without its house, and of its log only how long it is."""
    _, awake, leads, term, log, settled = sight
    words = ["awake" if awake else "asleep", "leads" if leads else "follows"]
    return " ".join([*words, str(term), str(len(log)), str(settled)])
