"""Webs of names that strike one another, and where rows of strikes lead in them."""

from strikeweave.errors import BadName, BadStrike, NoName

LETTERS = "abcdefghijklmnopqrstuvwxyz"
LONGEST_NAME = 8


class Web:
    """Names, and which of them strike which; it never changes once it is made."""

    def __init__(self, names, strikes):
        check_names(names)
        check_strikes(names, strikes)
        self.names = sorted(names)
        self.strikes = sorted(strikes)
        self.strikers_by_name = {name: [] for name in self.names}
        self.struck_by_name = {name: [] for name in self.names}
        # The strikes rise, so each of these lists rises as well.
        for one, other in self.strikes:
            self.strikers_by_name[other].append(one)
            self.struck_by_name[one].append(other)

    def all_names(self):
        return list(self.names)

    def all_strikes(self):
        return list(self.strikes)

    def strikers(self, name):
        self.check_has(name)
        return list(self.strikers_by_name[name])

    def struck(self, name):
        self.check_has(name)
        return list(self.struck_by_name[name])

    def check_has(self, name):
        # Asked of the list, not of a dict: a thing that can't be a key is refused like any other.
        if name not in self.names:
            raise NoName("the web has no such name")


def is_name(thing):
    """Whether this is a NAME."""
    if not isinstance(thing, str) or not 1 <= len(thing) <= LONGEST_NAME:
        return False
    return all([letter in LETTERS for letter in thing])


def check_names(names):
    seen = set()
    for place, name in enumerate(names):
        if not is_name(name) or name in seen:
            raise BadName(place)
        seen.add(name)


def check_strikes(names, strikes):
    seen = set()
    for place, strike in enumerate(strikes):
        if not is_strike(names, strike) or strike in seen:
            raise BadStrike(place)
        seen.add(strike)


def is_strike(names, thing):
    """Whether this is a pair of these names."""
    if not isinstance(thing, tuple) or len(thing) != 2:
        return False
    return thing[0] in names and thing[1] in names


def part_of(web, some):
    """The web of these names, with all strikes between them."""
    strikes = [(one, other) for one, other in web.all_strikes() if one in some and other in some]
    return Web(some, strikes)


def behind(web, some):
    """These names, and all to which a row of strikes leads from one of them."""
    return reached({name: web.struck(name) for name in web.all_names()}, some)


def ahead_of(web, some):
    """These names, and all from which a row of strikes leads to one of them."""
    return reached({name: web.strikers(name) for name in web.all_names()}, some)


def reached(steps, some):
    """The rising list of these names and all that are reached from them, steps telling each name's next ones."""
    seen = set(some)
    waiting = list(some)
    while waiting:
        here = waiting.pop()
        for name in steps[here]:
            if name not in seen:
                seen.add(name)
                waiting.append(name)
    return sorted(seen)


def parts(web):
    """The least lists into which the names go such that no strike goes from one list to another one."""
    beside = {name: web.strikers(name) + web.struck(name) for name in web.all_names()}
    found = []
    for name in web.all_names():
        part = reached(beside, [name])
        # Taken at its first name alone: so each part comes once, and they rise by their first names.
        if part[0] == name:
            found.append(part)
    return found


def rings(web):
    """The greatest lists of names such that a row of strikes leads from each of a list to each other one of it."""
    found = []
    for name in web.all_names():
        ring = to_and_from(web, name)
        alone = len(ring) == 1 and name not in web.struck(name)
        # Taken at its first name alone: so each ring comes once, and they rise by their first names.
        if ring[0] == name and not alone:
            found.append(ring)
    return found


def to_and_from(web, name):
    """The rising list of this name and all to which, and from which too, a row of strikes leads."""
    after = behind(web, [name])
    return [other for other in ahead_of(web, [name]) if other in after]
