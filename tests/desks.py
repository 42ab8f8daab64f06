"""What the tests of the desk need: a desk by the words of [24], with all sets gone through, and drawn rows for it."""

import functools

import looms
import papers
import plain

SMALL_ASKS = ("greatest", "outright", "granted", "some", "each", "fewest")


def set_text(some):
    return " ".join(some) if some else "-"


@functools.lru_cache(maxsize=None)
def standing(names, strikes):
    return plain.all_standing(names, strikes)


@functools.lru_cache(maxsize=None)
def web_answer(names, strikes, ask, name):
    """The answer to an ask of this web, both tuples; it is small enough, and has the name."""
    if ask == "rounds":
        rows = plain.round_rows(names, strikes)
        return " ".join(":".join([one, word, "-" if number is None else str(number)]) for one, word, number in rows) or "-"
    if ask == "least":
        return set_text(plain.least_set(names, strikes))
    if ask == "firm":
        return "asker" if name in plain.least_set(names, strikes) else "doubter"
    if ask == "outright":
        return " ; ".join(set_text(some) for some in plain.all_outright(names, strikes)) or "none"
    if ask == "granted":
        return set_text(papers.granted_set(names, strikes))
    if ask == "fewest":
        return str(plain.least_cost(names, strikes, name))
    if ask == "some":
        return "yes" if any(name in some for some in standing(names, strikes)) else "no"
    found = [some for some in standing(names, strikes) if not any(set(some) < set(one) for one in standing(names, strikes))]
    if ask == "each":
        return "yes" if all(name in some for some in found) else "no"
    return " ; ".join(set_text(some) for some in found) or "none"


class PlainDesk:
    def __init__(self):
        self.people, self.sayings, self.strikes, self.backs = [], [], [], []

    def parts(self):
        return (self.people, self.sayings, self.strikes, self.backs)

    def said(self):
        return [row[0] for row in self.sayings]

    def struck(self):
        return [row[0] for row in self.strikes]

    def answer(self, row):
        word, *rest = row.split(" ")
        deed = getattr(self, "do_" + word, None)
        if deed is not None:
            return "done" if deed(*rest) else "refused"
        if word == "counting":
            return set_text(looms.counting(self.parts()))
        if word == "word":
            return self.word(rest[0])
        names, strikes = looms.woven(self.parts())
        if word in SMALL_ASKS and len(names) > 12 or rest and rest[0] not in names:
            return "refused"
        return web_answer(tuple(names), tuple(strikes), word, rest[0] if rest else None)

    def word(self, name):
        if name not in self.said() + self.struck():
            return "refused"
        names, strikes = looms.woven(self.parts())
        return {row[0]: row[1] for row in plain.round_rows(names, strikes)}.get(name, "none")

    def do_person(self, name, rank):
        if len(self.people) == 8 or name in dict(self.people):
            return False
        self.people.append((name, int(rank)))
        return True

    def do_say(self, name, kind, *speakers):
        if len(self.sayings) == 12 or name in self.said() + self.struck() or len(set(speakers)) < len(speakers):
            return False
        if not all(one in dict(self.people) for one in speakers):
            return False
        self.sayings.append((name, kind, list(speakers)))
        return True

    def do_strike(self, name, one, goal):
        taken = self.said() + self.struck()
        if len(self.strikes) == 12 or name in taken or one not in self.said() or goal not in taken + [name]:
            return False
        self.strikes.append((name, one, goal))
        return True

    def do_back(self, one, other):
        if len(self.backs) == 12 or (one, other) in self.backs or one == other:
            return False
        if one not in self.said() or other not in self.said():
            return False
        self.backs.append((one, other))
        return True

    def do_unback(self, one, other):
        if (one, other) not in self.backs:
            return False
        self.backs.remove((one, other))
        return True

    def do_drop(self, name):
        if name in self.struck():
            self.drop_strike(name)
            return True
        if name not in self.said():
            return False
        self.sayings = [row for row in self.sayings if row[0] != name]
        self.backs = [pair for pair in self.backs if name not in pair]
        for strike, one, goal in list(self.strikes):
            if name in (one, goal):
                self.drop_strike(strike)
        return True

    def drop_strike(self, name):
        self.strikes = [row for row in self.strikes if row[0] != name]
        for strike, one, goal in list(self.strikes):
            if goal == name:
                self.drop_strike(strike)


def drawn_rows(source, names, count):
    """Rows of all forms over these names: mostly, not always, the first ones for sayings, the last ones for strikes."""
    half = (len(names) + 1) // 2

    def name():
        return source.choice(names)

    def said():
        return source.choice(names[:half]) if source.random() < 0.85 else name()

    def struck():
        return source.choice(names[half:]) if source.random() < 0.85 else name()

    forms = (
        lambda: f"person {name()} {source.randint(0, 9)}",
        lambda: " ".join(["say", said(), source.choice(("fact", "claim"))] + [name() for k in range(source.randint(0, 2))]),
        lambda: f"say {said()} claim",
        lambda: f"strike {struck()} {said()} {said()}",
        lambda: f"strike {struck()} {said()} {name()}",
        lambda: f"back {said()} {said()}",
        lambda: source.choice(("drop", "word", "word")) + " " + name(),
        lambda: source.choice(("back", "unback")) + f" {said()} {said()}",
        lambda: source.choice(("counting", "rounds", "least", "greatest", "outright", "granted")),
        lambda: source.choice(("some", "each", "firm", "fewest", "word")) + " " + name())
    return [source.choice(forms)() for step in range(count)]
