"""A keeper of a web: names and strikes are put in and taken out, and only the words behind that are reckoned anew."""

from strikeweave.errors import BadName, BadStrike, NoStrike
from strikeweave.rounds import rounds_beside
from strikeweave.webs import Web, behind, is_name


class Keeper:
    """A web of its own, at first as the handed one, and the words by rounds of its names."""

    def __init__(self, web):
        self.web = copy_of(web)
        self.given = words_beside(self.web, {})
        self.reckoned = []
        self.past = []

    def put_name(self, name):
        if not is_name(name) or name in self.web.all_names():
            raise BadName(0)
        return self.change(Web(self.web.all_names() + [name], self.web.all_strikes()), [name])

    def take_name(self, name):
        struck = [other for other in self.web.struck(name) if other != name]
        names = [one for one in self.web.all_names() if one != name]
        strikes = [pair for pair in self.web.all_strikes() if name not in pair]
        return self.change(Web(names, strikes), struck)

    def put_strike(self, one, other):
        if self.has_strike(one, other):
            raise BadStrike(0)
        return self.change(Web(self.web.all_names(), self.web.all_strikes() + [(one, other)]), [other])

    def take_strike(self, one, other):
        if not self.has_strike(one, other):
            raise NoStrike("the web has no such strike")
        strikes = [pair for pair in self.web.all_strikes() if pair != (one, other)]
        return self.change(Web(self.web.all_names(), strikes), [other])

    def words(self):
        return [(name, self.given[name]) for name in self.web.all_names()]

    def looked(self):
        return list(self.reckoned)

    def undo(self):
        if not self.past:
            return None
        web, given = self.past.pop()
        told = otherwise_in(self.given, given)
        self.web = web
        self.given = given
        self.reckoned = [name for name, old, new in told]
        return told

    def web_now(self):
        return copy_of(self.web)

    def has_strike(self, one, other):
        self.web.check_has(one)
        self.web.check_has(other)
        return other in self.web.struck(one)

    def change(self, web, changed):
        """Goes over to this web, in which what strikes the changed names is otherwise; what is otherwise now."""
        # No strike leads out of what is behind the changed names, so the words of all others stay.
        reckoned = behind(web, changed)
        stay = {name: self.given[name] for name in web.all_names() if name not in reckoned}
        given = words_beside(web, stay)
        told = otherwise_in(self.given, given)
        self.past.append((self.web, self.given))
        self.web = web
        self.given = given
        self.reckoned = reckoned
        return told


def copy_of(web):
    return Web(web.all_names(), web.all_strikes())


def words_beside(web, stay):
    """The words by rounds of all names, those that stay being known."""
    given = dict(stay)
    given.update({name: word for name, word, number in rounds_beside(web, stay)})
    return given


def otherwise_in(old, new):
    """The rising rows (name, old word, new word) of all names whose word is otherwise in new."""
    return [(name, old.get(name), new[name]) for name in sorted(new) if old.get(name) != new[name]]
