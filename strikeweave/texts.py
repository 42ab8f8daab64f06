"""Weaves written as texts, and texts read as weaves."""

from strikeweave.errors import BadRow
from strikeweave.weaves import KINDS, Weave, fits_backs, fits_people, fits_sayings, fits_strikes
from strikeweave.webs import is_name

SORTS = ("person", "say", "strike", "back")
FIGURES = "0123456789"


def text_of(weave):
    """The weave's text: a row for each person, saying, strike and back."""
    rows = [f"person {name} {rank}" for name, rank in weave.people]
    rows.extend([" ".join(["say", name, kind] + speakers) for name, kind, speakers in weave.sayings])
    rows.extend([f"strike {name} {one} {goal}" for name, one, goal in weave.strikes])
    rows.extend([f"back {one} {other}" for one, other in weave.backs])
    return "\n".join(rows)


def weave_of(text):
    """The weave of which this is the text."""
    puts = [put_of(row.split(" ")) for row in text.split("\n")] if text else []
    # A goal may be a strike of a later row, so these are gathered ahead.
    goals = [put[1][0] for put in puts if put is not None and put[0] == "strike"]
    parts = no_parts()
    latest = 0
    for number, put in enumerate(puts):
        if put is None or SORTS.index(put[0]) < latest or not fits_parts(parts, goals, put[0], put[1]):
            raise BadRow(number)
        latest = SORTS.index(put[0])
        parts[put[0]].append(put[1])
    return weave_from(parts)


def no_parts():
    """The rows of an empty weave, by their sorts."""
    return {sort: [] for sort in SORTS}


def weave_from(parts):
    return Weave(parts["person"], parts["say"], parts["strike"], parts["back"])


def fits_parts(parts, goals, sort, row):
    """Whether this row of a weave may stand behind those of its sort; goals are the strikes that may be goals."""
    if sort == "person":
        return fits_people(parts["person"], row)
    if sort == "say":
        return fits_sayings(parts["person"], parts["say"], row)
    if sort == "strike":
        return fits_strikes(parts["say"], goals, parts["strike"], row)
    return fits_backs(parts["say"], parts["back"], row)


def are_names(words, many):
    """Whether these are so many NAMEs."""
    return len(words) == many and all([is_name(word) for word in words])


def read_person(words):
    """The person that these words tell behind the first one; None where they aren't so written."""
    if len(words) != 2 or not is_name(words[0]) or len(words[1]) != 1 or words[1] not in FIGURES:
        return None
    return (words[0], int(words[1]))


def read_saying(words):
    """The same of a saying."""
    if len(words) < 2 or words[1] not in KINDS or not are_names(words[:1] + words[2:], len(words) - 1):
        return None
    return (words[0], words[1], words[2:])


def read_strike(words):
    """The same of a strike."""
    return tuple(words) if are_names(words, 3) else None


def read_back(words):
    """The same of a back."""
    return tuple(words) if are_names(words, 2) else None


READERS = {"person": read_person, "say": read_saying, "strike": read_strike, "back": read_back}


def put_of(words):
    """A pair: the sort of a row that has these words, and the weave's row; None where it isn't so written."""
    if words[0] not in READERS:
        return None
    read = READERS[words[0]]
    row = read(words[1:])
    return None if row is None else (words[0], row)
