"""Disputes: an asker and a doubter name names by turns, and who can't has lost."""

from strikeweave.errors import NoMove
from strikeweave.sets import is_quiet, strikers_of_any, struck_by_any
from strikeweave.webs import Web


class Dispute:
    """One dispute about a name, of the kind "firm" or "some"."""

    def __init__(self, web, name, kind):
        web.check_has(name)
        # A copy: whatever becomes of the handed web, the dispute keeps to it as it was.
        self.web = Web(web.all_names(), web.all_strikes())
        self.kind = kind
        self.line = [name]

    def turn(self):
        if self.begins_unquiet() or len(self.line) & 1 == 0:
            return "asker"
        return "doubter"

    def moves(self):
        if self.turn() == "doubter":
            return self.doubts()
        return self.answers()

    def play(self, name):
        if name not in self.moves():
            raise NoMove("that can't be named now")
        self.line.append(name)

    def back(self):
        if len(self.line) == 1:
            raise NoMove("only the first name is there")
        self.line.pop()

    def named(self):
        return list(self.line)

    def winner(self):
        if self.moves():
            return None
        if self.turn() == "doubter":
            return "asker"
        return "doubter"

    def begins_unquiet(self):
        """Whether the asker has lost at once, by a first name that strikes itself."""
        return self.kind == "some" and not is_quiet(self.web, self.line[:1])

    def askers_names(self):
        return self.line[::2]

    def doubts(self):
        """The rising list of what the doubter can name."""
        if self.kind == "firm":
            return self.web.strikers(self.line[-1])
        mine = self.askers_names()
        hit = struck_by_any(self.web, mine)
        return [name for name in strikers_of_any(self.web, mine) if name not in hit]

    def answers(self):
        """The rising list of what the asker can name."""
        return [name for name in self.web.strikers(self.line[-1]) if self.may_answer(name)]

    def may_answer(self, name):
        mine = self.askers_names()
        if self.kind == "firm":
            return name not in mine
        return is_quiet(self.web, mine + [name])
