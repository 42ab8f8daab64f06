"""All sets that stand, are whole, greatest or outright, and all tellings."""

from strikeweave.errors import TooMany
from strikeweave.sets import words_by

MOST = 300


class Marks:
    """A web in whole numbers: each name has a bit, so that a set is one number and a question of sets one step."""

    def __init__(self, web):
        self.names = web.all_names()
        bits = {name: 1 << place for place, name in enumerate(self.names)}
        self.full = sum(bits.values())
        self.bit_of = bits
        self.strikers_of = {bits[name]: sum([bits[one] for one in web.strikers(name)]) for name in self.names}
        self.struck_of = {bits[name]: sum([bits[one] for one in web.struck(name)]) for name in self.names}
        self.loops = sum([bit for bit in bits.values() if bit & self.strikers_of[bit]])

    def bits_in(self, some):
        """The bits of this set, in the order of their names."""
        return [bit for bit in self.strikers_of if bit & some]

    def names_in(self, some):
        """The rising list of the names of this set."""
        return [name for name in self.names if self.bit_of[name] & some]

    def first_name(self, some):
        """The first name of this set."""
        return self.names_in(some)[0]

    def set_of(self, some):
        """The set of these names."""
        return sum([self.bit_of[name] for name in some])

    def struck_by(self, some):
        """The set of all that one of this set strikes."""
        return joined([self.struck_of[bit] for bit in self.bits_in(some)])

    def strikers_at(self, some):
        """The set of all that strike one of this set."""
        return joined([self.strikers_of[bit] for bit in self.bits_in(some)])

    def unstruck_by(self, some):
        """The set of all that none of this set strikes."""
        return self.full ^ self.struck_by(some)

    def kept(self, some):
        """The set of all each of whose strikers is struck by one of this set."""
        return self.full ^ self.struck_by(self.unstruck_by(some))


def joined(sets):
    """The set of all that are in one of these sets."""
    whole = 0
    for one in sets:
        whole |= one
    return whole


def first_bit(some):
    return some & -some


def standing_sets(web):
    """The rising list of all sets that stand."""
    return all_found(web, settle_standing, False)


def whole_sets(web):
    """The rising list of all whole sets."""
    return all_found(web, settle_whole, False)


def greatest_sets(web):
    """The rising list of the standing sets that aren't within another one."""
    # Each greatest set is whole, so the others needn't be gone through.
    return all_found(web, settle_whole, True)


def outright_sets(web):
    """The rising list of all outright sets."""
    return all_found(web, settle_outright, False)


def tellings(web):
    """The rising list of all tellings."""
    # Each telling is that of one whole set.
    return sorted([words_by(web, some) for some in whole_sets(web)])


def all_found(web, settle, greatest):
    marks = Marks(web)
    found = []
    gather(marks, settle, greatest, 0, marks.loops, found)
    return sorted([marks.names_in(some) for some in found])


def gather(marks, settle, greatest, chosen, barred, found):
    """Puts all sets that have the chosen names and none of the barred ones into found, or the greatest of them."""
    chosen, barred = settle(marks, chosen, barred)
    if chosen & barred:
        return
    undecided = marks.full ^ (chosen | barred)
    most = chosen | undecided
    # A set is found ahead of those within it, as a name is chosen first and barred afterwards.
    if greatest and any([most & one == most for one in found]):
        return
    if not undecided:
        if len(found) == MOST:
            raise TooMany("there are more than three hundred")
        found.append(chosen)
        return
    first = first_bit(undecided)
    gather(marks, settle, greatest, chosen | first, barred, found)
    gather(marks, settle, greatest, chosen, barred | first, found)


def settle_standing(marks, chosen, barred):
    """Chosen and barred, with all that must be barred besides; the two share a name where no set is left."""
    while True:
        safe = marks.unstruck_by(marks.full ^ barred)
        # Nothing will strike the safe ones back, so what they strike is in no such set.
        more = barred | marks.struck_by(chosen) | marks.strikers_at(chosen) | marks.struck_by(safe)
        if more == barred:
            return chosen, barred
        barred = more


def settle_whole(marks, chosen, barred):
    """The same for whole sets: what the chosen ones keep is chosen, too."""
    while True:
        chosen, barred = settle_standing(marks, chosen, barred)
        more = chosen | marks.kept(chosen)
        if more == chosen or chosen & barred:
            return chosen, barred
        chosen = more


def settle_outright(marks, chosen, barred):
    """The same for outright sets: what only barred names strike, if any, is chosen, too."""
    while True:
        chosen, barred = settle_standing(marks, chosen, barred)
        more = chosen | marks.unstruck_by(marks.full ^ barred)
        if more == chosen or chosen & barred:
            return chosen, barred
        chosen = more
