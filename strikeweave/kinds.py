"""Of which kind a handed thing is: what the checkers ask ahead of all else."""


def is_number(thing):
    """Whether this is a whole number; True and False are none."""
    return isinstance(thing, int) and not isinstance(thing, bool)


def is_listed(thing):
    """Whether this is a list, or a tuple in its place."""
    return isinstance(thing, (list, tuple))


def is_row_of(thing, many):
    """Whether this is a tuple of so many things."""
    return isinstance(thing, tuple) and len(thing) == many


def is_set_of(web, thing):
    """Whether this is a set: a list of unlike names of the web."""
    names = web.all_names()
    # Only what is surely a name, and so a text, may become a set's member.
    return is_listed(thing) and all([one in names for one in thing]) and len(set(thing)) == len(thing)
