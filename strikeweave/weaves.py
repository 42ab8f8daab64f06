"""Weaves: people with ranks, what they say, what strikes it, and what backs it."""

from strikeweave.errors import BadWeave
from strikeweave.kinds import is_listed, is_number, is_row_of
from strikeweave.webs import is_name

KINDS = ("fact", "claim")
GREATEST_RANK = 9


class Weave:
    """People, sayings, strikes and backs, each in the order in which they were handed in."""

    def __init__(self, people, sayings, strikes, backs):
        check_part("people", people, fits_people)
        check_part("sayings", sayings, lambda ahead, row: fits_sayings(people, ahead, row))
        goals = begins_of(strikes)
        check_part("strikes", strikes, lambda ahead, row: fits_strikes(sayings, goals, ahead, row))
        check_part("backs", backs, lambda ahead, row: fits_backs(sayings, ahead, row))
        self.people = list(people)
        self.sayings = [(name, kind, list(speakers)) for name, kind, speakers in sayings]
        self.strikes = list(strikes)
        self.backs = list(backs)


def check_part(part, rows, fits):
    """Refuses the first row that doesn't fit; fits is asked with the rows ahead of it and the row."""
    for place, row in enumerate(rows):
        if not fits(rows[:place], row):
            raise BadWeave(part, place)


def begins_of(rows):
    """What the rows begin with; a row that is itself not as told counts, too, as a goal may be a later row."""
    return [row[0] for row in rows if is_listed(row) and len(row) > 0]


def names_of(rows):
    return [row[0] for row in rows]


def fits_people(ahead, row):
    """Whether this is a person (name, rank) that may stand behind these people."""
    return is_row_of(row, 2) and is_fresh(names_of(ahead), row[0]) and is_rank(row[1])


def fits_sayings(people, ahead, row):
    """Whether this is a saying (name, kind, speakers) of these people that may stand behind these sayings."""
    if not is_row_of(row, 3) or not is_fresh(names_of(ahead), row[0]):
        return False
    return row[1] in KINDS and are_speakers(names_of(people), row[2])


def fits_strikes(sayings, goals, ahead, row):
    """Whether this is a strike (name, one, goal) that may stand behind these strikes, at a saying or one of goals."""
    said = names_of(sayings)
    if not is_row_of(row, 3) or not is_fresh(said + names_of(ahead), row[0]):
        return False
    return row[1] in said and (row[2] in said or row[2] in goals)


def fits_backs(sayings, ahead, row):
    """Whether this is a pair (one, other) of unlike sayings that may stand behind these pairs."""
    said = names_of(sayings)
    if not is_row_of(row, 2) or row in ahead:
        return False
    return row[0] in said and row[1] in said and row[0] != row[1]


def is_fresh(taken, thing):
    """Whether this is a NAME and none of those that are taken."""
    return is_name(thing) and thing not in taken


def is_rank(thing):
    return is_number(thing) and 0 <= thing <= GREATEST_RANK


def are_speakers(names, thing):
    """Whether this is a list of unlike ones of these names."""
    # Only what is surely a name, and so a text, may become a set's member.
    return is_listed(thing) and all([one in names for one in thing]) and len(set(thing)) == len(thing)
