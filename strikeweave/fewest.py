"""The fewest strikes without which a name is in a standing set, and a tree which shows that fewer don't do."""

from strikeweave.lists import Marks
from strikeweave.sets import struck_by_any

DEAR = ("dear",)


def fewest(web, name):
    """A tuple: the least number of strikes, so many such ones, a set that stands without them, and a tree."""
    web.check_has(name)
    marks = Marks(web)
    first = marks.set_of([name])
    some = first
    tree, cheaper = tree_or_cheaper(marks, set_cost(marks, some), first, 0)
    while cheaper is not None:
        some = cheaper
        tree, cheaper = tree_or_cheaper(marks, set_cost(marks, some), first, 0)
    names = marks.names_in(some)
    strikes = strikes_to_go(web, names)
    return (len(strikes), strikes, names, tree)


def cost_of(web, some):
    """How many strikes must go that the set stands."""
    return len(strikes_to_go(web, some))


def strikes_to_go(web, some):
    """The rising list of the strikes between the set's names, and of those at them that it can't strike back."""
    hit = struck_by_any(web, some)
    return [(one, other) for one, other in web.all_strikes() if other in some and (one in some or one not in hit)]


def tree_or_cheaper(marks, number, held, barred):
    """A pair: a tree which shows that each set that has the held names and none of the barred ones costs so much,
    and None; or None, and a set that costs less."""
    if sure_cost(marks, held, barred) >= number:
        return (DEAR, None)
    if set_cost(marks, held) < number:
        return (None, held)
    bit = next_bit(marks, held, barred)
    with_it, cheaper = tree_or_cheaper(marks, number, held | bit, barred)
    if cheaper is not None:
        return (None, cheaper)
    without, cheaper = tree_or_cheaper(marks, number, held, barred | bit)
    if cheaper is not None:
        return (None, cheaper)
    return (("name", marks.first_name(bit), with_it, without), None)


def sure_cost(marks, held, barred):
    """How many strikes must go at least, whatever is held besides."""
    bare = barred & marks.unstruck_by(marks.full ^ barred)
    return sum([count_of(marks, marks.struck_of[bit] & held) for bit in marks.bits_in(held | bare)])


def set_cost(marks, some):
    """The same as cost_of, of a set of marks."""
    return sure_cost(marks, some, marks.full ^ some)


def next_bit(marks, held, barred):
    """The undecided one on which the most strikes at held names hang, so that few steps are left."""
    undecided = marks.full ^ (held | barred)
    threats = marks.strikers_at(held) & marks.unstruck_by(held)
    return max(marks.bits_in(undecided), key=lambda bit: touch(marks, held, threats, bit))


def touch(marks, held, threats, bit):
    hits = count_of(marks, marks.struck_of[bit] & (held | threats))
    return hits + count_of(marks, marks.strikers_of[bit] & held)


def count_of(marks, some):
    """How many names this set has."""
    return len(marks.bits_in(some))
